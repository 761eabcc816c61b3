/-
  The document's own answers for what is read (bad, End, GetNumber): what they are, from any world.
-/
import Derived.Test.YtifokcpkamdkeaaCdcRef
import Derived.Test.YtifokcpkamdkeaaCdcList
import Derived.Test.YtifokcpkamdkeaaRegion
namespace Go.Proofs.Ytifokcpkamdkeaa
open Go.RowKit Cdc

def badS (s : St) : St := if s.e = 0 then lost else s
def RV (A : Option Addr) (c : Nat) (s : St) : Value := .agg #[.slice A s.l.length c, .int .i64 s.e]
def NBPost (w0 : World) (s : St) (w : World) (e : Ending) (w' : World) : Prop :=
  ∃ A c, e = .returned (.agg #[.slice A s.l.length c, .int .i64 s.e]) ∧ Sl w0 A s.l.length c s.l ∧ Below w.heap.size w w'
def GPost (w0 : World) (s : St) (v : Value) (w : World) (e : Ending) (w' : World) : Prop :=
  ∃ A c, e = .returned (.tuple #[.agg #[.slice A s.l.length c, .int .i64 s.e], v]) ∧ Sl w0 A s.l.length c s.l ∧ Below w.heap.size w w'

set_option maxRecDepth 100000 in
theorem bad_any (w0 : World) (A : Option Addr) (n c : Nat) (s : St) (w : World) (hs : Sl w0 A n c s.l) :
    Calls Try.prog 44 #[.agg #[.slice A n c, .int .i64 s.e]] w (NBPost w0 (badS s) w) := by
  have S := Lib.hid hs; clear hs
  by_cases he : s.e = 0
  · have HB : Hid (badS s = lost) := by show _ = _; unfold badS; rw [if_pos he]
    rw [he]
    clear he
    go_enter Try.func44, Try.ntmps44
    go_wp2_with fail
    exact bodyPost_ret (v := .agg #[.slice none 0 0, .int .i64 2]) (by simp [results, Try.results44, go_sem]) rfl (by rw [HB.out]; exact ⟨none, 0, rfl, Sl.none_ _, ((Below.refl _ _).alloc (Nat.le_refl _) _).alloc (by simp) _⟩)
  · have HB : Hid (badS s = s) := by show _ = _; unfold badS; rw [if_neg he]
    have hne : (s.e != 0) = true := by rw [bne_iff_ne]; exact he
    clear he
    generalize hx : s.e = x at *
    have HX := Lib.hid hx; clear hx
    go_enter Try.func44, Try.ntmps44
    go_wp2_with fail
    have BX := ((Below.refl w.heap.size w).alloc (Nat.le_refl _) (.cells #[.slice A n c, .int .i64 x] 53)).alloc (by simp) (.cells #[.slice A n c, .int .i64 x] 53)
    exact bodyPost_ret (v := .agg #[.slice A n c, .int .i64 x]) (by simp [results, Try.results44, go_sem]) rfl (by
      rw [HB.out]
      have := S.out.len
      subst this
      exact ⟨A, c, by rw [HX.out], S.out, BX⟩)
set_option maxRecDepth 100000 in
theorem refEnd_any (A : Option Addr) (c : Nat) (s : St) (w : World) (ho : Okay s) :
    Calls Try.prog 25 #[.agg #[.slice A s.l.length c, .int .i64 s.e]] w fun e w' => e = .returned (.int .i64 (endE s)) ∧ Below w.heap.size w w' := by
  by_cases he : s.e = 0
  · rw [he]
    by_cases hl : 0 < s.l.length
    · have HB : Hid (endE s = 2) := by show _ = _; unfold endE; rw [if_pos hl]
      clear he ho
      generalize s.l.length = n at *
      go_enter Try.func25, Try.ntmps25
      go_wp2_with fail
      go_ret
      exact ⟨ret_int HB.out.symm, (Below.refl _ _).alloc (Nat.le_refl _) _⟩
    · have HB : Hid (endE s = 0) := by show _ = _; unfold endE; rw [if_neg hl, he]
      clear he ho
      generalize s.l.length = n at *
      go_enter Try.func25, Try.ntmps25
      go_wp2_with fail
      go_ret
      exact ⟨ret_int HB.out.symm, (Below.refl _ _).alloc (Nat.le_refl _) _⟩
  · have HB : Hid (endE s = s.e) := by show _ = _; unfold endE; rw [if_neg (by rw [ho.none_ he]; simp)]
    have hne : (s.e == 0) = false := by rw [beq_eq_false_iff_ne]; exact he
    clear he ho
    generalize s.e = x at *
    generalize s.l.length = n at *
    go_enter Try.func25, Try.ntmps25
    go_wp2_with fail
    go_ret
    exact ⟨ret_int HB.out.symm, (Below.refl _ _).alloc (Nat.le_refl _) _⟩

theorem bcell {W w1 : World} (hb : Below W.heap.size W w1) : (∀ b o, b < W.heap.size → w1.cell? ⟨b, o, none⟩ = W.cell? ⟨b, o, none⟩) ∧ (∀ b o, b < W.heap.size → w1.frozen? ⟨b, o, none⟩ = W.frozen? ⟨b, o, none⟩) :=
  ⟨fun b o h => hb.cell (p := ⟨b, o, none⟩) h, fun b o h => hb.frozen (p := ⟨b, o, none⟩) h⟩
theorem mul_next (v x k : Nat) (hv : v < 128 ^ k) (hk : k ≤ 8) : wrap64 ((v : Int) + wrap64 ((x : Int) % 128 * ((128 ^ k : Nat) : Int))) = ((v + x % 128 * 128 ^ k : Nat) : Int) := by
  have h := shl_next v x k hv hk
  have e : ((2 : Int) ^ (7 * k)) = ((128 ^ k : Nat) : Int) := by
    rw [Int.pow_mul]; simp
  rwa [e] at h
theorem by_next (k : Nat) (hk : k ≤ 7) : wrap64 (((128 ^ k : Nat) : Int) * 128) = ((128 ^ (k + 1) : Nat) : Int) := by
  have h8 : 128 ^ (k + 1) ≤ 72057594037927936 := Nat.le_trans (Nat.pow_le_pow_right (by omega) (show k + 1 ≤ 8 by omega)) (by decide)
  rw [show ((128 ^ k : Nat) : Int) * 128 = ((128 ^ (k + 1) : Nat) : Int) from by rw [Nat.pow_succ]; simp]
  generalize 128 ^ (k + 1) = q at *
  rw [IntWalk.wrap64_in _ ⟨by omega, by omega⟩]

set_option maxRecDepth 100000 in
set_option maxHeartbeats 3200000 in
theorem refNum_ok (w0 : World) (A : Option Addr) (c : Nat) (l : List Nat) (w : World) (h0 : Sl w0 A l.length c l) (hb0 : Below w0.heap.size w0 w) (hl : l.length ≤ 1000000) :
    Calls Try.prog 20 #[.agg #[.slice A l.length c, .int .i64 0]] w (GPost w0 (num ⟨l, 0⟩) (.int .i64 (numV ⟨l, 0⟩ : Nat)) w) := by
  have S0 := Lib.hid h0
  have S := Lib.hid (h0.on hb0)
  have hcap := h0.cap
  clear h0 hb0
  have HF : Hid (dk l = 0 → num ⟨l, 0⟩ = lost ∧ numV ⟨l, 0⟩ = 0) := fun h => by unfold num numV; simp only [if_pos, h, dn_none h, and_self]
  have HT : Hid (dk l ≠ 0 → num ⟨l, 0⟩ = ⟨l.drop (dk l), 0⟩ ∧ numV ⟨l, 0⟩ = dn l) := fun h => by unfold num numV; simp only [if_pos, if_neg h, and_self]
  obtain ⟨n, hn⟩ : ∃ n, n = l.length := ⟨_, rfl⟩
  have HN := Lib.hid hn; clear hn
  rw [← HN.out] at hl hcap S S0 ⊢
  have B0 := Lib.hid (((Below.refl w.heap.size w).alloc (Nat.le_refl _) (.cells #[.slice A n c, .int .i64 0] 53)).alloc (by simp) (.cells #[.slice none 0 0, .int .i64 0] 53))
  have ZW : Hid (w.heap.size ≤ ((w.alloc (.cells #[.slice A n c, .int .i64 0] 53)).alloc (.cells #[.slice none 0 0, .int .i64 0] 53)).heap.size) := B0.out.size
  have BAD : Hid (∀ WX, Below w.heap.size w WX → Calls Try.prog 44 #[.agg #[.slice A n c, .int .i64 0]] WX (NBPost w0 lost WX)) := fun WX _ => bad_any w0 A n c ⟨l, 0⟩ WX S0.out
  go_enter Try.func20, Try.ntmps20
  go_wp2_with fail
  go_loop [4, 5, 6] (fun a y i => ∃ (k : Nat) (u : Int), i = .int .i64 k ∧ a = .int .i64 (val (l.take k) : Nat) ∧ y = .int .i64 u ∧ (k ≤ 8 → u = ((128 ^ k : Nat) : Int)) ∧ k ≤ 9 ∧ k ≤ n ∧ ∀ j, j < k → 128 ≤ l.getD j 0) (fun _ _ i => 9 - (intOf i).toNat)
  case atStart => exact ⟨0, 1, rfl, rfl, rfl, fun _ => rfl, by omega, by omega, fun j hj => by omega⟩
  case round =>
    obtain ⟨k, u, rfl, rfl, rfl, hu, hk9, hkn, hrun⟩ := hrel
    have HR := Lib.hid hrun; clear hrun
    have HU := Lib.hid hu; clear hu
    by_cases hin : k < n ∧ k < 9
    · obtain ⟨hk1, hk2⟩ := hin
      have hlt : k < l.length := by rw [← HN.out]; exact hk1
      have hx := S.out.rd.byte k
      have HBY := Lib.hid S.out.rd.1
      have CV0 : Hid (∀ W, Below w.heap.size w W → (convert 22 9 (.slice A (k + 1) c)).run Try.prog W = .ok (.string (txt (l.take (k + 1)))) W) := fun W hW =>
        conv_rd ((S.out.rd.take (k + 1)).below hW) (by rw [List.length_take]; omega)
      have SLD : Hid (Sl w0 (if c = k + 1 then A else A.map fun x => x.add (k + 1)) (n - (k + 1)) (c - (k + 1)) (l.drop (k + 1))) := by
        show Sl _ _ _ _ _
        by_cases hck : c = k + 1
        · rw [if_pos hck]; exact S0.out.dropAll (by omega) hck
        · rw [if_neg hck]; exact S0.out.drop (by omega) hck
      have hsl : ∀ W, (Instr.slice 22 (.slice A n c) (some (.int .i64 ((k : Int) + 1))) none none).run Try.prog W = .ok (.slice (if c = k + 1 then A else A.map fun x => x.add (k + 1)) (n - (k + 1)) (c - (k + 1))) W := fun W => cut_run A n c (k + 1) (by omega) W
      generalize (if c = k + 1 then A else A.map fun x => x.add (k + 1)) = A' at *
      have HSL := Lib.hid hsl; clear hsl
      obtain ⟨b, o, rfl, hbw, hcl⟩ := S.out.rd.2 (by omega)
      have hck := hcl k hlt
      clear hcl
      obtain rfl : u = ((128 ^ k : Nat) : Int) := HU.out (by omega)
      have HX : Hid (l.getD k 0 < 128 → run l = k) := fun h => run_of HR.out hlt h
      have HY : Hid (128 ≤ l.getD k 0 → ∀ j, j < k + 1 → 128 ≤ l.getD j 0) := fun h j hj => by
        by_cases e : j = k
        · subst e; exact h
        · exact HR.out j (by omega)
      have HV := Lib.hid ((mul_next (val (l.take k)) (l.getD k 0) k (val_take_lt _ _) (by omega)).trans (congrArg (fun x : Nat => (x : Int)) (val_next hlt).symm))
      have HB : Hid (k + 1 ≤ 8 → wrap64 (((128 ^ k : Nat) : Int) * 128) = ((128 ^ (k + 1) : Nat) : Int)) := fun h => by_next k (by omega)
      have HL := Lib.hid hlt
      clear HR HU hlt
      generalize l.getD k 0 = x at *
      generalize val (l.take k) = v at *
      generalize ((128 ^ k : Nat) : Int) = u at *
      by_cases hd : 128 ≤ x
      · go_wp2_with fail
        rw [HV.out]
        go_round
        case rel => exact ⟨k + 1, _, by go_num, rfl, rfl, HB.out, by omega, by omega, HY.out hd⟩
        case measure => simp [intOf]; omega
      · have hd2 : decide ((128 : Int) ≤ (x : Int)) = false := decide_eq_false (by omega)
        have hd3 : decide (128 ≤ x) = false := decide_eq_false (by omega)
        have HZ := Lib.hid (HX.out (by omega))
        clear hd
        obtain ⟨nn, hnn⟩ : ∃ nn, nn = val (l.take (k + 1)) := ⟨_, rfl⟩
        have NN := Lib.hid hnn; clear hnn
        rw [← NN.out] at HV
        go_wp2_with fail
        rw [HV.out]
        clear HV HB HX HY hck hx hd2 hd3
        by_cases hm : mayB (nn : Int) = true
        · have M := Lib.hid hm
          have HQ : Hid (nn < 4611686018427387904) := by
            show _ < _
            unfold mayB at hm
            have := of_decide_eq_true hm
            obtain ⟨m, h1, h2⟩ := sz_pos this
            omega
          clear hm
          have CV : Hid (∀ W, Below ((w.alloc (.cells #[.slice (some ⟨b, o, none⟩) n c, .int .i64 0] 53)).alloc (.cells #[.slice none 0 0, .int .i64 0] 53)).heap.size ((w.alloc (.cells #[.slice (some ⟨b, o, none⟩) n c, .int .i64 0] 53)).alloc (.cells #[.slice none 0 0, .int .i64 0] 53)) W → (convert 22 9 (.slice (some ⟨b, o, none⟩) (k + 1) c)).run Try.prog W = .ok (.string (txt (l.take (k + 1)))) W) := fun W hW => CV0.out W (B0.out.trans (hW.mono ZW.out))
          have i1 : (0 : Int) ≤ (k : Int) + 1 := by omega
          have i2 : (k : Int) + 1 ≤ (c : Int) := by omega
          have i3 : IntKind.i64.wrap ((k : Int) + 1) = (k : Int) + 1 := IntWalk.i64_in _ (by omega)
          have i4 : ((k : Int) + 1).toNat = k + 1 := by omega
          refine wp_region_held_drew (S := fun W => Below ((w.alloc (.cells #[.slice (some ⟨b, o, none⟩) n c, .int .i64 0] 53)).alloc (.cells #[.slice none 0 0, .int .i64 0] 53)).heap.size ((w.alloc (.cells #[.slice (some ⟨b, o, none⟩) n c, .int .i64 0] 53)).alloc (.cells #[.slice none 0 0, .int .i64 0] 53)) W) (by kernel_rfl) (Below.refl _ _).drew (fun hS => ?_)
          refine tkYes 0 (v := ?_) rfl (by kernel_rfl) (fun _ _ _ h => h) rfl ?_ hS ?_
          rotate_left
          · intro W hW; go_simp; (try with_reducible rfl)
          simp only [Act.put, List.setIfInBounds_toArray, List.set_cons_zero, List.set_cons_succ]
          refine rnOne 1 rfl (by kernel_rfl) rfl (fun K hK => ?_)
          go_simp
          (with_reducible refine (may_any _ _).mono ?_)
          rw [M.out]
          rintro e w9 ⟨rfl, rfl⟩
          refine hK.out _ _ hS (fun _ => ?_)
          clear hK K
          try simp only [Act.put, List.setIfInBounds_toArray, List.set_cons_zero, List.set_cons_succ]
          refine tkYes 2 (v := ?_) rfl (by kernel_rfl) (fun _ _ _ h => h) rfl ?_ hS ?_
          rotate_left
          · intro W hW; go_simp; (try with_reducible rfl)
          simp only [Act.put, List.setIfInBounds_toArray, List.set_cons_zero, List.set_cons_succ]
          refine tkYes 3 (v := ?_) rfl (by kernel_rfl) (fun _ _ _ h => h) rfl ?_ hS ?_
          rotate_left
          · intro W hW; go_simp; (try with_reducible rfl)
          simp only [Act.put, List.setIfInBounds_toArray, List.set_cons_zero, List.set_cons_succ]
          refine tkYes 6 (v := ?_) rfl (by kernel_rfl) (fun _ _ _ h => h) rfl ?_ hS ?_
          rotate_left
          · intro W hW; go_simp; (try with_reducible rfl)
          simp only [Act.put, List.setIfInBounds_toArray, List.set_cons_zero, List.set_cons_succ]
          refine tkYes 7 (v := ?_) rfl (by kernel_rfl) (fun _ _ _ h => h) rfl ?_ hS ?_
          rotate_left
          · intro W hW; obtain ⟨hc, hf⟩ := bcell (show Below ((w.alloc (.cells #[.slice (some ⟨b, o, none⟩) n c, .int .i64 0] 53)).alloc (.cells #[.slice none 0 0, .int .i64 0] 53)).heap.size ((w.alloc (.cells #[.slice (some ⟨b, o, none⟩) n c, .int .i64 0] 53)).alloc (.cells #[.slice none 0 0, .int .i64 0] 53)) W from hW); go_simp; (try with_reducible rfl)
          simp only [Act.put, List.setIfInBounds_toArray, List.set_cons_zero, List.set_cons_succ]
          refine tkYes 8 (v := ?_) rfl (by kernel_rfl) (fun _ _ _ h => h) rfl ?_ hS ?_
          rotate_left
          · intro W hW; go_simp; (try with_reducible rfl)
          simp only [Act.put, List.setIfInBounds_toArray, List.set_cons_zero, List.set_cons_succ]
          refine tkYes 9 (v := ?_) rfl (by kernel_rfl) (fun _ _ _ h => h) rfl ?_ hS ?_
          rotate_left
          · intro W hW; go_simp; (try with_reducible rfl)
          simp only [Act.put, List.setIfInBounds_toArray, List.set_cons_zero, List.set_cons_succ]
          refine tkYes 10 (v := ?_) rfl (by kernel_rfl) (fun _ _ _ h => h) rfl ?_ hS ?_
          rotate_left
          · intro W hW; go_simp; (try with_reducible rfl)
          simp only [Act.put, List.setIfInBounds_toArray, List.set_cons_zero, List.set_cons_succ]
          refine tkYes 11 (v := ?_) rfl (by kernel_rfl) (fun _ _ _ h => h) rfl ?_ hS ?_
          rotate_left
          · intro W hW; have hcv := CV.out W hW; go_simp; (try with_reducible rfl)
          simp only [Act.put, List.setIfInBounds_toArray, List.set_cons_zero, List.set_cons_succ]
          refine rnOne 4 rfl (by kernel_rfl) rfl (fun K hK => ?_)
          go_simp
          (with_reducible refine (rdigs_any nn _ HQ.out).mono ?_)
          rintro e w9 ⟨v9, rfl, ho9, hb9⟩
          obtain ⟨A9, c9, rfl, h9⟩ := OwnB.sl ho9
          have hcv := conv_rd (c := c9) h9.rd rfl
          have hS2 := hS.trans (hb9.mono hS.size)
          clear ho9 hb9 h9 hS
          have hS := hS2
          clear hS2
          refine hK.out _ _ hS (fun _ => ?_)
          clear hK K
          try simp only [Act.put, List.setIfInBounds_toArray, List.set_cons_zero, List.set_cons_succ]
          refine rnOne 5 rfl (by kernel_rfl) rfl (fun K hK => ?_)
          go_simp
          refine hK.out _ _ hS (fun _ => ?_)
          clear hK K
          try simp only [Act.put, List.setIfInBounds_toArray, List.set_cons_zero, List.set_cons_succ]
          refine tkYes 12 (v := ?_) rfl (by kernel_rfl) (fun _ _ _ h => h) rfl ?_ hS ?_
          rotate_left
          · intro W hW; go_simp; (try with_reducible rfl)
          simp only [Act.put, List.setIfInBounds_toArray, List.set_cons_zero, List.set_cons_succ]
          refine tkYes 13 (v := ?_) rfl (by kernel_rfl) (fun _ _ _ h => h) rfl ?_ hS ?_
          rotate_left
          · intro W hW; go_simp; (try with_reducible rfl)
          simp only [Act.put, List.setIfInBounds_toArray, List.set_cons_zero, List.set_cons_succ]
          refine wpAnyH_done (by kernel_rfl) ?_ _
          clear hcv i3 i4
          have BQ := Lib.hid hS
          obtain ⟨hc, hf⟩ := bcell BQ.out
          clear hS CV CV0
          by_cases heq : digs nn = l.take (k + 1)
          · have TT : ((txt (digs nn)).toList == (txt (l.take (k + 1))).toList) = true := by rw [heq]; simp
            have hlen : (digs nn).length = k + 1 := by rw [heq, List.length_take]; have := HL.out; omega
            have P := Lib.hid (some_of HZ.out HL.out hk2 (by rw [← NN.out, sz_yes HQ.out, hlen]))
            have P2 := Lib.hid (HT.out (by rw [P.out.1]; omega))
            clear heq hlen
            have hsl := HSL.out
            rw [TT]
            clear TT
            go_wp2_with fail
            exact bodyPost_ret (v := .tuple #[.agg #[.slice A' (n - (k + 1)) (c - (k + 1)), .int .i64 0], .int .i64 (nn : Int)]) (by simp [results, Try.results20, go_sem, hc]) rfl (by
              have BF := ((B0.out.trans (BQ.out.mono ZW.out)).setCell (p := ⟨w.heap.size + 1, 0, none⟩) (by simp) (.slice A' (n - (k + 1)) (c - (k + 1)))).setCell (p := ⟨w.heap.size + 1, 1, none⟩) (by simp) (.int .i64 0)
              have hll : (l.drop (k + 1)).length = n - (k + 1) := by rw [List.length_drop, ← HN.out]
              rw [P2.out.1, P2.out.2, P.out.1, P.out.2, ← NN.out]
              refine ⟨A', c - (k + 1), ?_, ?_, BF⟩
              · show _ = Ending.returned (.tuple #[.agg #[.slice A' (l.drop (k + 1)).length _, _], _])
                rw [hll]
              · show Sl _ A' (l.drop (k + 1)).length _ _
                rw [hll]; exact SLD.out)
          · have TT : ((txt (digs nn)).toList == (txt (l.take (k + 1))).toList) = false := by
              rw [txt_eq (digs_byte nn) (fun x hx => HBY.out x (List.mem_of_mem_take hx)), decide_eq_false heq]
            have P : Hid (num ⟨l, 0⟩ = lost ∧ numV ⟨l, 0⟩ = 0) := HF.out (none_of_sz HZ.out (by
              rw [← NN.out, sz_yes HQ.out]
              intro h1
              apply heq
              have h2 := digs_val l HBY.out (by rw [HZ.out]; exact HL.out)
              rw [HZ.out, ← NN.out] at h2
              exact h2.2 h1)).1
            clear heq
            rw [TT]
            clear TT
            go_wp2_with fail
            (with_reducible refine (BAD.out _ (B0.out.trans (BQ.out.mono ZW.out))).mono ?_)
            rintro e w2 ⟨A2, c2, rfl, hs2, hb2⟩
            have T2 := Lib.hid hs2; clear hs2
            have B2 := Lib.hid (BQ.out.trans (hb2.mono BQ.out.size)); clear hb2
            obtain ⟨hc, hf⟩ := bcell B2.out
            go_wp2_with fail
            exact bodyPost_ret (v := .tuple #[.agg #[.slice A2 0 c2, .int .i64 2], .int .i64 0]) (by simp [results, Try.results20, go_sem, hc, lost]) rfl (by
              rw [P.out.1, P.out.2]
              exact ⟨A2, c2, rfl, ⟨Rd.empty _ _ _, T2.out.len, T2.out.cap, T2.out.max, T2.out.nil⟩, ((B0.out.trans (B2.out.mono ZW.out)).setCell (by simp) _).setCell (by simp) _⟩)
        · have M : Hid (mayB (nn : Int) = false) := by show _ = _; simpa using hm
          have P : Hid (num ⟨l, 0⟩ = lost ∧ numV ⟨l, 0⟩ = 0) := HF.out (none_of_sz HZ.out (by
            rw [← NN.out]
            have h1 := M.out
            unfold mayB at h1
            have := of_decide_eq_false h1
            omega)).1
          have MF : Hid (∀ W, Calls Try.prog 42 #[.int .i64 (nn : Int)] W fun e w' => e = .returned (.bool false) ∧ w' = W) := fun W => (may_any nn W).mono fun _ _ ⟨h1, h2⟩ => ⟨by rw [h1, M.out], h2.symm⟩
          clear hm
          go_quiet ((go_at_call 42; exact Calls.quiet_of_same (MF.out _)))
          have BQ := Lib.hid (below_drewN (Below.refl ((w.alloc (.cells #[.slice (some ⟨b, o, none⟩) n c, .int .i64 0] 53)).alloc (.cells #[.slice none 0 0, .int .i64 0] 53)).heap.size ((w.alloc (.cells #[.slice (some ⟨b, o, none⟩) n c, .int .i64 0] 53)).alloc (.cells #[.slice none 0 0, .int .i64 0] 53))) nq)
          obtain ⟨hc, hf⟩ := bcell BQ.out
          go_wp2_with fail
          (with_reducible refine (BAD.out _ (B0.out.trans (BQ.out.mono ZW.out))).mono ?_)
          rintro e w2 ⟨A2, c2, rfl, hs2, hb2⟩
          have T2 := Lib.hid hs2; clear hs2
          have B2 := Lib.hid (BQ.out.trans (hb2.mono BQ.out.size)); clear hb2
          obtain ⟨hc, hf⟩ := bcell B2.out
          go_wp2_with fail
          exact bodyPost_ret (v := .tuple #[.agg #[.slice A2 0 c2, .int .i64 2], .int .i64 0]) (by simp [results, Try.results20, go_sem, hc, lost]) rfl (by
            rw [P.out.1, P.out.2]
            exact ⟨A2, c2, rfl, ⟨Rd.empty _ _ _, T2.out.len, T2.out.cap, T2.out.max, T2.out.nil⟩, ((B0.out.trans (B2.out.mono ZW.out)).setCell (by simp) _).setCell (by simp) _⟩)
    · have P := Lib.hid (HF.out (none_of_run (l := l) (by have := run_ge HR.out; rw [← HN.out]; omega)).1)
      have hcase : (k < n ∧ ¬ k < 9) ∨ ¬ k < n := by omega
      have BQ := Lib.hid (Below.refl ((w.alloc (.cells #[.slice A n c, .int .i64 0] 53)).alloc (.cells #[.slice none 0 0, .int .i64 0] 53)).heap.size ((w.alloc (.cells #[.slice A n c, .int .i64 0] 53)).alloc (.cells #[.slice none 0 0, .int .i64 0] 53)))
      clear hin
      rcases hcase with ⟨hk1, hk2⟩ | hk1
      all_goals
        go_wp2_with fail
        (with_reducible refine (BAD.out _ (B0.out.trans (BQ.out.mono ZW.out))).mono ?_)
        rintro e w2 ⟨A2, c2, rfl, hs2, hb2⟩
        have T2 := Lib.hid hs2; clear hs2
        have B2 := Lib.hid (BQ.out.trans (hb2.mono BQ.out.size)); clear hb2
        obtain ⟨hc, hf⟩ := bcell B2.out
        go_wp2_with fail
        exact bodyPost_ret (v := .tuple #[.agg #[.slice A2 0 c2, .int .i64 2], .int .i64 0]) (by simp [results, Try.results20, go_sem, hc, lost]) rfl (by
          rw [P.out.1, P.out.2]
          exact ⟨A2, c2, rfl, ⟨Rd.empty _ _ _, T2.out.len, T2.out.cap, T2.out.max, T2.out.nil⟩, ((B0.out.trans (B2.out.mono ZW.out)).setCell (by simp) _).setCell (by simp) _⟩)

set_option maxRecDepth 100000 in
set_option maxHeartbeats 1600000 in
theorem refNum_err (w0 : World) (A : Option Addr) (c : Nat) (s : St) (w : World) (h0 : Sl w0 A s.l.length c s.l) (ho : Okay s) (he : s.e ≠ 0) :
    Calls Try.prog 20 #[.agg #[.slice A s.l.length c, .int .i64 s.e]] w (GPost w0 (num s) (.int .i64 (numV s : Nat)) w) := by
  rw [num_err he, numV_err he]
  have hl : s.l.length = 0 := by rw [ho.none_ he]; rfl
  have BAD := Lib.hid (fun WX => bad_any w0 A s.l.length c s WX h0)
  rw [show badS s = s from by unfold badS; rw [if_neg he]] at BAD
  clear ho he h0
  unfold NBPost at BAD
  unfold GPost
  rw [hl] at BAD ⊢
  clear hl
  generalize s.e = x at *
  go_enter Try.func20, Try.ntmps20
  go_wp2_with fail
  refine wp_loop_rounds 1 ?_
  rw [rounds_succ]
  go_wp2_with fail
  (with_reducible refine (BAD.out _).mono ?_)
  rintro e w2 ⟨A2, c2, rfl, hs2, hb2⟩
  have T2 := Lib.hid hs2; clear hs2
  obtain ⟨hc, hf⟩ := bcell hb2
  have B2 := Lib.hid hb2; clear hb2
  go_wp2_with fail
  exact bodyPost_ret (v := .tuple #[.agg #[.slice A2 0 c2, .int .i64 x], .int .i64 0]) (by simp [results, Try.results20, go_sem, hc]) rfl ⟨A2, c2, rfl, T2.out, (((((Below.refl w.heap.size w).alloc (Nat.le_refl _) _).alloc (by simp) _).trans (B2.out.mono (by simp; omega))).setCell (by simp) _).setCell (by simp) _⟩
theorem refNum_any (w0 : World) (A : Option Addr) (c : Nat) (s : St) (w : World) (h0 : Sl w0 A s.l.length c s.l) (hb0 : Below w0.heap.size w0 w) (ho : Okay s) (hl : s.l.length ≤ 1000000) :
    Calls Try.prog 20 #[.agg #[.slice A s.l.length c, .int .i64 s.e]] w (GPost w0 (num s) (.int .i64 (numV s : Nat)) w) := by
  by_cases he : s.e = 0
  · obtain ⟨l, e⟩ := s
    obtain rfl : e = 0 := he
    exact refNum_ok w0 A c l w h0 hb0 hl
  · exact refNum_err w0 A c s w h0 ho he
end Go.Proofs.Ytifokcpkamdkeaa
