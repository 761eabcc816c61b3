/-
  The walk of LeaseOne over any table that keeps the contracts.
-/
import Derived.Test.YtemnioijgkahcaaLsSide
import Derived.Deep.CutBlock
import Derived.Deep.DeepCutAuto
namespace Go.Proofs.Ytemnioijgkahcaa
open Go.RowKit Go.Deep

set_option maxHeartbeats 6400000 in
set_option maxRecDepth 100000 in
theorem lone_walk {L : LPred} (hC : LC L) (margin : Int) (hm : l64In margin) (n c : Nat) (A : Option Addr) (ts : List Lp) (w : World) (h : SlL w A n c ts) :
    Calls Try.prog 3 #[.int .i64 margin, .slice A n c] w fun e w' => e = .returned (.bool true) ∧ Below w.heap.size w w' := by
  have L1 := Lib.hid (llives_any hC w)
  have HA := Lib.hid h
  clear h
  go_enter Try.func3, Try.ntmps3
  go_upto_region 3 with (go_at_call 8; (with_reducible refine L1.out.mono ?_); rintro e w1 ⟨rfl, hb1⟩; have B1 := Lib.hid hb1; clear hb1)
  clear L1
  have N1 := Lib.hid (lat_make (F := fun _ => False) (w0 := w) (W := w1) hC hm B1.out (fun b hb => by cases hb))
  have FW : Hid (Ls.Few (Ls.new margin) (0 + 1)) := ⟨fun e he => (by cases he), by show 0 ≤ 0 + 1; omega⟩
  generalize Ls.new margin = s0 at *
  go_upto_region 4 with (go_at_call 9; (with_reducible refine N1.out.mono ?_); rintro e w5 ⟨q, rfl, hk1, _⟩; have K4 := Lib.hid hk1; clear hk1)
  clear N1
  have E6 := Lib.hid (learly_any ts n c A w w5 HA.out K4.out.below)
  go_upto_region 5 with (go_at_call 10; (with_reducible refine E6.out.mono ?_); rintro e w6 ⟨v6, rfl, ho6, hb6⟩; obtain ⟨A6, c6, rfl⟩ := ho6.form; have O6 := Lib.hid ho6; have K6 := Lib.hid (K4.out.more hC hb6); clear ho6 hb6)
  have ES := Lib.hid (learly_len ts)
  generalize learly ts = es at *
  obtain ⟨m, hm⟩ : ∃ m, m = es.length := ⟨_, rfl⟩
  rw [← hm] at O6 ⊢
  have hm80 : m ≤ 80 := by rw [hm]; exact ES.out
  have HMM := Lib.hid hm
  clear hm ES E6 HA K4
  obtain ⟨F, hF⟩ : ∃ F : Nat → Prop, F = fun b => False ∨ (w5.heap.size ≤ b ∧ b < w6.heap.size) := ⟨_, rfl⟩
  rw [← hF] at K6
  have HV : Hid (∀ k, (Value.slice A6 m c6).ownBlock = some k → F k) := fun k hk => by rw [hF]; exact .inr (O6.out.lt k hk)
  have P6 : Hid (LQ L w F q w5.heap.size (.slice A6 m c6) es [] s0 w6) := ⟨K6.out, O6.out, HV.out, fun p hp => by cases hp⟩
  clear hF K6 O6
  generalize w5.heap.size = N at *
  go_wp2_with fail
  go_loopw [6] (fun i wr => ∃ (j : Nat) (s : Ls.St), j ≤ m ∧ i = .int .i64 j ∧ LQ L w F q N (.slice A6 m c6) es [] s wr ∧ Ls.Few s (j + 1)) (fun i _ => m - (intOf i).toNat)
  case atStart => exact ⟨0, s0, by omega, rfl, P6.out, FW.out⟩
  case round =>
    obtain ⟨j, s, hj, rfl, hp, hfw⟩ := hrel
    have P := Lib.hid hp
    have FS := Lib.hid hfw
    clear hp hfw P6 FW
    by_cases hlt : j < m
    · obtain ⟨b1, o1, hA1⟩ := (P.out.row.readL).addrL (by have := HMM.out; omega)
      subst hA1
      have EO : Hid (es[j]? = some (es[j]'(by have := HMM.out; omega))) := List.getElem?_eq_getElem _
      generalize es[j]'(by have := HMM.out; omega) = o at *
      obtain ⟨p0, p1, p2, p3, p4, p5⟩ := P.out.row.readL.lp EO.out (Below.refl _ _)
      have OK := Lib.hid (P.out.row.readL.lpOk (List.mem_of_getElem? EO.out))
      obtain ⟨F1, hf1, hp1⟩ := P.out.push hC (o := lstepO o) ((Below.refl wr.heap.size wr).alloc (Nat.le_refl _) _) (heap_alloc_new wr _)
      have FF1 := Lib.hid hf1
      have P1 := Lib.hid hp1
      clear hf1 hp1
      unfold lstepO at P1
      go_upto_region 9 with fail
      clear p0 p1 p2 p3 p4 p5 P
      obtain ⟨gs, hgs⟩ : ∃ gs, gs = wr.heap.size := ⟨_, rfl⟩
      rw [← hgs] at P1 ⊢
      clear hgs
      generalize wr.alloc (.cells #[.int .i64 o.kind, .int .i64 o.who, .int .i64 o.ep, .int .i64 o.now, .int .i64 o.ttl, .string o.name] 28) = ws at *
      rw [show Obj.cells #[.int .i64 o.kind, .int .i64 o.who, .int .i64 o.ep, .int .i64 o.now, .int .i64 o.ttl, .string o.name] 28 (0, 0) = lstepO o from rfl] at P1
      obtain ⟨c0, c1, c2, c3, c4, c5, f5, hgl⟩ := lstep_cells (P1.out.at_ 0 rfl)
      go_upto_block 2 with ((with_reducible refine (lkind_any _ _).mono ?_); rintro e wk ⟨rfl, hbk⟩; have PK := Lib.hid (P1.out.on hC hbk); clear hbk)
      clear c0 c1 c2 c3 c4 c5 f5 hgl P1
      have hkd := (lkN_eq o.kind).2
      obtain ⟨kd, hkd2⟩ : ∃ kd, kd = lkN o.kind := ⟨_, rfl⟩
      rw [← hkd2] at hkd ⊢
      clear hkd2
      go_cut [] (fun wx => ∃ s', LQ L w F1 q N (.slice (some ⟨b1, o1, none⟩) m c6) es [(gs, lstepO o)] s' wx ∧ Ls.Few s' (j + 2))
      case first =>
        have hor : kd = 0 ∨ kd = 1 ∨ kd = 2 ∨ kd = 3 := by omega
        clear hkd
        obtain ⟨c0, c1, c2, c3, c4, c5, f5, hgl⟩ := lstep_cells (PK.out.at_ 0 rfl)
        rcases hor with rfl | rfl | rfl | rfl
        · have CT := Lib.hid (lq_take hC PK.out (FS.out.more (by omega)) OK.out.s OK.out.w OK.out.n OK.out.t)
          go_wp2_with (go_at_call 12; (with_reducible refine CT.out.mono ?_); rintro e w7 ⟨rfl, hp7⟩; have P7 := Lib.hid hp7; clear hp7)
          go_meet
          case rel => exact ⟨_, P7.out, Ls.take_few FS.out _ _ _ _⟩
        · have CT := Lib.hid (lq_renew hC PK.out OK.out.s OK.out.w OK.out.e OK.out.n OK.out.t)
          go_wp2_with (go_at_call 13; (with_reducible refine CT.out.mono ?_); rintro e w7 ⟨rfl, hp7⟩; have P7 := Lib.hid hp7; clear hp7)
          go_meet
          case rel => exact ⟨_, P7.out, Ls.renew_few FS.out _ _ _ _ _⟩
        · have CT := Lib.hid (lq_drop hC PK.out OK.out.s OK.out.w OK.out.e)
          go_wp2_with (go_at_call 14; (with_reducible refine CT.out.mono ?_); rintro e w7 ⟨rfl, hp7⟩; have P7 := Lib.hid hp7; clear hp7)
          go_meet
          case rel => exact ⟨_, P7.out, Ls.drop_few FS.out _ _ _⟩
        · go_wp2_with fail
          go_meet
          case rel => exact ⟨_, PK.out, FS.out.more (by omega)⟩
      case rest =>
        obtain ⟨s', hp', hfw'⟩ := hcut
        have PX := Lib.hid hp'
        have FX := Lib.hid hfw'
        clear hp' hfw' PK FS
        have GD := Lib.hid (PX.out.la.good hC)
        have CG := Lib.hid (lat_get hC PX.out.la OK.out.s)
        have CH := Lib.hid (fun W F (h : LAt L w F q s' W) (a b : Int) (h1 : l64In a) (h2 : l64In b) => lat_holds hC h OK.out.s h1 h2 OK.out.n)
        have CF := Lib.hid (fun W F (h : LAt L w F q s' W) => lat_free hC h OK.out.s OK.out.n)
        have HH := Lib.hid (fun (a b : Int) => Ls.holds_iff (s := s') (k := o.name) (h := a) (ep := b) (now := o.now))
        have TI := Lib.hid (Ls.taken_is (s := s') (k := o.name) (now := o.now))
        have TF := Lib.hid (Ls.taken_free (s := s') (k := o.name) (now := o.now) GD.out)
        unfold LGet lval at CG
        unfold LBool at CH CF
        generalize Ls.holderOf s'.l o.name = a at *
        generalize Ls.epochOf s'.l o.name = b at *
        generalize Ls.tillOf s'.l o.name = t at *
        generalize (Ls.find s'.l o.name).isSome = is at *
        obtain ⟨T, hT⟩ : ∃ T, T = Ls.Taken s' o.name o.now := ⟨_, rfl⟩
        rw [← hT] at HH TI TF
        clear hT GD
        obtain ⟨c0, c1, c2, c3, c4, c5, f5, hgl⟩ := lstep_cells (PX.out.at_ 0 rfl)
        go_upto_region 17 with (go_at_call 15; (with_reducible refine CG.out.mono ?_); rintro e w8 ⟨rfl, hb⟩; have P8 := Lib.hid (PX.out.on hC hb); clear hb)
        clear c0 c1 c2 c3 c4 c5 f5 hgl PX CG
        obtain ⟨F2, hf2, hp2⟩ := P8.out.push hC (o := lleaseO a b t) ((Below.refl w8.heap.size w8).alloc (Nat.le_refl _) _) (heap_alloc_new w8 _)
        have FF2 := Lib.hid hf2
        have P9 := Lib.hid hp2
        clear hf2 hp2 P8
        unfold lleaseO at P9
        obtain ⟨g8, hg8⟩ : ∃ g8, g8 = w8.heap.size := ⟨_, rfl⟩
        rw [← hg8] at P9 ⊢
        clear hg8
        generalize w8.alloc (.cells #[.int .i64 a, .int .i64 b, .int .i64 t] 36) = w9 at *
        rw [show Obj.cells #[.int .i64 a, .int .i64 b, .int .i64 t] 36 (0, 0) = lleaseO a b t from rfl] at P9
        go_wp2_with fail
        go_loopw [10, 11] (fun cn wh W => ∃ (y x : Nat), x ≤ 4 ∧ wh = .int .i64 x ∧ cn = .int .i64 y ∧ (y = 0 ∨ (y = 1 ∧ T ∧ a < x)) ∧ LQ L w F2 q N (.slice (some ⟨b1, o1, none⟩) m c6) es [(g8, lleaseO a b t), (gs, lstepO o)] s' W) (fun _ wh _ => 4 - (intOf wh).toNat)
        case atStart => exact ⟨0, 0, by omega, rfl, rfl, .inl rfl, P9.out⟩
        case round =>
          obtain ⟨y, x, hx, rfl, rfl, hy, hp⟩ := hrel
          rename World => W
          have P := Lib.hid hp
          have Y := Lib.hid hy
          clear hp hy P9
          by_cases hx4 : x < 4
          · have hd4 : decide ((x : Int) < 4) = true := decide_eq_true (by omega)
            go_wp2_with fail
            go_loopw [10, 12] (fun cn ep V => ∃ (y z : Nat), z ≤ 6 ∧ ep = .int .i64 z ∧ cn = .int .i64 y ∧ (y = 0 ∨ (y = 1 ∧ T ∧ (a < x ∨ (a = x ∧ b < z)))) ∧ LQ L w F2 q N (.slice (some ⟨b1, o1, none⟩) m c6) es [(g8, lleaseO a b t), (gs, lstepO o)] s' V) (fun _ ep _ => 6 - (intOf ep).toNat)
            case atStart =>
              refine ⟨y, 0, by omega, rfl, rfl, ?_, P.out⟩
              rcases Y.out with h | ⟨h1, h2, h3⟩
              · exact .inl h
              · exact .inr ⟨h1, h2, .inl h3⟩
            case round =>
              clear P Y
              obtain ⟨y, z, hz, rfl, rfl, hy, hp⟩ := hrel
              rename World => V
              have P := Lib.hid hp
              have Y := Lib.hid hy
              clear hp hy
              by_cases hz6 : z < 6
              · obtain ⟨c0, c1, c2, c3, c4, c5, f5, hgl⟩ := lstep_cells (P.out.at_ 1 rfl)
                have CC := Lib.hid (CH.out _ F2 P.out.la x z ⟨by omega, by omega⟩ ⟨by omega, by omega⟩)
                by_cases hh : T ∧ a = x ∧ b = z
                · have hy0 : y = 0 := by
                    rcases Y.out with h | ⟨_, _, h⟩
                    · exact h
                    · obtain ⟨_, h1, h2⟩ := hh; omega
                  have hist : is = true := TI.out hh.1
                  have q1 : (a != (x : Int)) = false := by rw [hh.2.1]; simp
                  have q2 : (b != (z : Int)) = false := by rw [hh.2.2]; simp
                  have HHO := Lib.hid hh
                  clear hh
                  subst hy0 hist
                  go_wp2_with (go_at_call 16; (with_reducible refine CC.out.mono ?_); rintro e v1 ⟨⟨xx, rfl, hxx⟩, hb⟩; obtain rfl : xx = true := (hxx.trans (HH.out _ _)).2 HHO.out; have PV := Lib.hid (P.out.on hC hb); obtain ⟨l0, l1, l2⟩ := llease_cells (PV.out.at_ 0 rfl); clear hb hxx)
                  exact ⟨⟨1, z + 1, by omega, by go_num, by go_num, .inr ⟨rfl, HHO.out.1, .inr ⟨HHO.out.2.1, by have := HHO.out.2.2; omega⟩⟩, PV.out⟩, by simp [intOf]; omega⟩
                · have HHO := Lib.hid hh
                  clear hh
                  go_wp2_with (go_at_call 16; (with_reducible refine CC.out.mono ?_); rintro e v1 ⟨⟨xx, rfl, hxx⟩, hb⟩; obtain rfl : xx = false := by { cases xx with | false => rfl | true => exact absurd ((hxx.trans (HH.out _ _)).1 rfl) HHO.out }; have PV := Lib.hid (P.out.on hC hb); clear hb hxx)
                  refine ⟨⟨y, z + 1, by omega, by go_num, rfl, ?_, PV.out⟩, by simp [intOf]; omega⟩
                  rcases Y.out with h | ⟨h1, h2, h3⟩
                  · exact .inl h
                  · exact .inr ⟨h1, h2, by omega⟩
              · go_wp2_with fail
                refine ⟨⟨y, x + 1, by omega, by go_num, rfl, ?_, P.out⟩, by simp [intOf]; omega⟩
                rcases Y.out with h | ⟨h1, h2, h3⟩
                · exact .inl h
                · exact .inr ⟨h1, h2, by omega⟩
          · have PE := Lib.hid (fun V (h : LQ L w F2 q N (.slice (some ⟨b1, o1, none⟩) m c6) es [(g8, lleaseO a b t), (gs, lstepO o)] s' V) => h.pop (fun b hb => FF2.out b (FF1.out b hb)) HV.out)
            obtain ⟨c0, c1, c2, c3, c4, c5, f5, hgl⟩ := lstep_cells (P.out.at_ 1 rfl)
            rcases Y.out with rfl | ⟨rfl, h2, h3⟩
            · go_wp2_with fail
              exact ⟨⟨j + 1, s', by omega, by go_num, PE.out _ P.out, FX.out⟩, by simp [intOf]; omega⟩
            · have NF := Lib.hid (TF.out h2)
              have CC := Lib.hid (CF.out _ F2 P.out.la)
              clear h2 h3
              go_wp2_with (go_at_call 17; (with_reducible refine CC.out.mono ?_); rintro e v1 ⟨⟨xx, rfl, hxx⟩, hb⟩; obtain rfl : xx = false := by { cases xx with | false => rfl | true => exact absurd (hxx.1 rfl) NF.out }; have PV := Lib.hid (P.out.on hC hb); clear hb hxx)
              exact ⟨⟨j + 1, s', by omega, by go_num, PE.out _ PV.out, FX.out⟩, by simp [intOf]; omega⟩
    · go_wp2_with fail
      go_ret
      exact ⟨rfl, P.out.la.below⟩
end Go.Proofs.Ytemnioijgkahcaa
