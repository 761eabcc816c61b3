/-
  The walk of KvSince over any store that keeps the contracts.
-/
import Derived.Test.YtmkfiiheeplmgaaKvLaw4
namespace Go.Proofs.Ytmkfiiheeplmgaa
open Go.RowKit Go.Deep

namespace Kv
def upto (l : List En) (r : Int) (i : Nat) : List En := (l.take i).filter fun e => decide (r < e.rev)
theorem upto_snoc {l : List En} {i : Nat} {e : En} (h : l[i]? = some e) (r : Int) : upto l r (i + 1) = upto l r i ++ (if r < e.rev then [e] else []) := by
  unfold upto
  rw [List.take_add_one, h, List.filter_append]
  congr 1
  by_cases h2 : r < e.rev <;> simp [h2]
theorem upto_at {s : St} {i : Nat} {e : En} (h : s.l[i]? = some e) {r : Int} (hr : r < e.rev) : (since s r)[(upto s.l r i).length]? = some e.key := by
  have h1 := take_cons_drop h
  have h2 : s.l.filter (fun e => decide (r < e.rev)) = upto s.l r i ++ e :: (s.l.drop (i + 1)).filter fun e => decide (r < e.rev) := by
    conv => lhs; rw [← h1]
    rw [List.filter_append, List.filter_cons_of_pos (by simpa using hr)]
    rfl
  unfold since
  rw [List.getElem?_map, h2, List.getElem?_append_right (Nat.le_refl _), Nat.sub_self]
  rfl
theorem upto_len (l : List En) (r : Int) (i : Nat) : (upto l r i).length ≤ i := by
  unfold upto
  have h1 := List.length_filter_le (fun e : En => decide (r < e.rev)) (l.take i)
  rw [List.length_take] at h1
  omega
theorem rise_at {l : List En} (h : Rise l) {i : Nat} {a b : En} (ha : l[i]? = some a) (hb : l[i + 1]? = some b) : lt a.key b.key := by
  obtain ⟨h1, rfl⟩ := List.getElem?_eq_some_iff.1 ha
  obtain ⟨h2, rfl⟩ := List.getElem?_eq_some_iff.1 hb
  exact List.pairwise_iff_getElem.1 h i (i + 1) h1 h2 (by omega)
theorem le_false {a b : ByteArray} (h : lt a b) : (Op.bytesLess b.toList a.toList || b.toList == a.toList) = false := by
  rw [Bool.or_eq_false_iff]
  exact ⟨by simpa [lt] using lt_asymm h, tne.2 (lt_ne h).symm⟩
end Kv
/-- What of a text of a row is read. -/
theorem SlR.tx {w : World} {b o n c : Nat} {l : List ByteArray} (h : SlT w (some ⟨b, o, none⟩) n c l) {j : Nat} {x : ByteArray} (hx : l[j]? = some x) {w' : World} (hb : Below w.heap.size w w') : w'.cell? ⟨b, o + j, none⟩ = some (.string x) := by
  obtain ⟨hj, rfl⟩ := List.getElem?_eq_some_iff.1 hx
  obtain ⟨hl, cs, _, hc, he⟩ := h.cell hj
  unfold ETx at he
  rw [he] at hc
  have := (hb.cell (p := ⟨b, o + j * 1 + 0, none⟩) hl).trans (hc 0 (by omega))
  rw [Nat.mul_one, Nat.add_zero] at this
  exact this
theorem kat_keys {K : KPred} (hC : KC K) {w0 : World} (s : Kv.St) (q : Nat) (W : World) (hk : KAt K w0 q s W) :
    Calls Try.prog 22 #[.pointer (some ⟨q, 0, none⟩)] W (fun e w' => (∃ v, e = .returned v ∧ OwnTx w' W.heap.size v (Kv.keysOf s.l)) ∧ Below W.heap.size W w' ∧ KAt K w0 q s w') := by
  have hk' := hk
  obtain ⟨X, h1, h2, h3⟩ := hk
  exact (hC.keys W X q s h1).mono fun _ _ ⟨v, e1, e2, e3⟩ => ⟨⟨v, e1, e2⟩, e3, hk'.on hC e3⟩
theorem kat_since {K : KPred} (hC : KC K) {w0 : World} (s : Kv.St) (r : Int) (hr : i64In r) (q : Nat) (W : World) (hk : KAt K w0 q s W) :
    Calls Try.prog 19 #[.pointer (some ⟨q, 0, none⟩), .int .i64 r] W (fun e w' => (∃ v, e = .returned v ∧ OwnTx w' W.heap.size v (Kv.since s r)) ∧ Below W.heap.size W w' ∧ KAt K w0 q s w') := by
  have hk' := hk
  obtain ⟨X, h1, h2, h3⟩ := hk
  exact (hC.since W X q s r h1 hr).mono fun _ _ ⟨v, e1, e2, e3⟩ => ⟨⟨v, e1, e2⟩, e3, hk'.on hC e3⟩
theorem kat_good {K : KPred} (hC : KC K) {w0 W : World} {q : Nat} {s : Kv.St} (hk : KAt K w0 q s W) : Kv.Good s := by
  obtain ⟨X, h1, h2, h3⟩ := hk
  exact hC.good _ _ _ _ h1
set_option maxHeartbeats 6400000 in
set_option maxRecDepth 100000 in
theorem ksince_walk {K : KPred} (hC : KC K) (n c : Nat) (A : Option Addr) (ls : List (List Kv.Po)) (r : Int) (w : World) (h : SlPs w A n c ls) (hr : i64In r) :
    Calls Try.prog 6 #[.slice A n c, .int .i64 r] w fun e w' => e = .returned (.bool true) ∧ Below w.heap.size w w' := by
  have hn := h.len
  have hmx := h.max
  have hcp := h.cap
  unfold maxLen at hmx
  have HA := Lib.hid h
  have HN := Lib.hid hn
  have HR := Lib.hid hr
  have hr1 := hr.1
  have hr2 := hr.2
  have L1 := Lib.hid (klives_any hC w)
  clear h hn hr
  go_enter Try.func6, Try.ntmps6
  go_wp2_with (first
    | (go_at_call 9; (with_reducible refine L1.out.mono ?_); rintro e w1 ⟨rfl, hb1⟩; have B1 := Lib.hid hb1; clear hb1)
    | (go_at_call 10; (with_reducible refine (kat_make hC w w1 B1.out).mono ?_); rintro e w2 ⟨q, rfl, hK1⟩; have K1 := Lib.hid hK1; clear hK1))
  go_loopw [6] (fun i wr => ∃ j : Nat, j ≤ n ∧ j ≤ 30 ∧ i = .int .i64 j ∧ KAt K w q (Kv.run (ls.take j)) wr) (fun i _ => 30 - (intOf i).toNat)
  case atStart => exact ⟨0, by omega, by omega, rfl, K1.out⟩
  case round =>
    obtain ⟨j, hj, hj3, rfl, hk⟩ := hrel
    have KR := Lib.hid hk
    have BW := Lib.hid hk.below
    have RG : Hid ((Kv.run (ls.take j)).rev ≤ 1000) := by
      have h1 := (Kv.run_good (ls.take j)).2
      rw [List.length_take] at h1
      show _ ≤ _; omega
    clear hk
    by_cases hlt : j < n ∧ j < 30
    · obtain ⟨h1, h2⟩ := hlt
      have h2' : (j : Int) < 30 := by omega
      obtain ⟨b1, o1, rfl⟩ := HA.out.addr (by have := HN.out; omega)
      have EO : Hid (ls[j]? = some (ls[j]'(by have := HN.out; omega))) := List.getElem?_eq_getElem _
      generalize ls[j]'(by have := HN.out; omega) = l at *
      obtain ⟨A2, n2, c2, p0, hs⟩ := HA.out.row EO.out BW.out
      have HS := Lib.hid hs
      have RS := Lib.hid (Kv.run_snoc EO.out)
      clear hs
      go_wp2_with (first
        | (go_at_call 11; (with_reducible refine (kops_any l n2 c2 A2 _ HS.out).mono ?_); rintro e w2 ⟨v2, rfl, ho2, hb2⟩; obtain ⟨A3, c3, rfl⟩ := ho2.form; have O2 := Lib.hid ho2; have K2 := Lib.hid (KR.out.on hC hb2); clear ho2 hb2)
        | (go_at_call 13; (with_reducible refine (kas_any _ _ c3 A3 _ O2.out.readP (Nat.le_trans (Kv.cuts_len l) (by omega))).mono ?_); rintro e w3 ⟨v3, rfl, ho3, hb3⟩; obtain ⟨A4, c4, rfl⟩ := ho3.form; have O3 := Lib.hid ho3; have K3 := Lib.hid (K2.out.on hC hb3); clear ho3 hb3)
        | (go_at_call 12; (with_reducible refine (kat_do hC K3.out RG.out O3.out.readP (Kv.cuts_len l)).mono ?_); rintro e w4 ⟨rfl, hk4⟩; have K4 := Lib.hid hk4; clear hk4))
      exact ⟨⟨j + 1, by omega, by omega, by go_num, by rw [RS.out]; exact K4.out⟩, by simp [intOf]; omega⟩
    · have GD := Lib.hid (kat_good hC KR.out)
      generalize Kv.run (ls.take j) = s at *
      obtain ⟨sl, sr⟩ := s
      have hsr0 := GD.out.rev0
      have hsr1 : sr ≤ 1000 := RG.out
      have hsr0 : 0 ≤ sr := hsr0
      have hlt' : j < n → ¬ (j : Int) < 30 := fun h1 h2 => hlt ⟨h1, by omega⟩
      have LZ : Hid (sl.length ≤ 64) := GD.out.len
      have SLN : Hid ((Kv.keysOf sl).length = sl.length) := List.length_map ..
      by_cases hjn : j < n
      · have hj30 := hlt' hjn
        clear hlt hlt'
        go_upto_region 9 with (first
          | (go_at_call 22; (with_reducible refine (kat_keys hC _ _ _ KR.out).mono ?_); rintro e w5 ⟨⟨v5, rfl, ho5⟩, hb5, hk5⟩; obtain ⟨A5, c5, rfl⟩ := ho5.form; have T1 := Lib.hid ho5; have K5 := Lib.hid hk5; clear ho5 hb5 hk5)
          | (go_at_call 19; (with_reducible refine (kat_since hC _ r HR.out _ _ K5.out).mono ?_); rintro e w6 ⟨⟨v6, rfl, ho6⟩, hb6, hk6⟩; obtain ⟨A6, c6, rfl⟩ := ho6.form; have T2 := Lib.hid ho6; have T3 := Lib.hid (OwnTx.any (w1 := w6) (T1.out.below hb6)); have K6 := Lib.hid hk6; clear ho6 hb6 hk6))
        have ES : Hid ((Kv.since ⟨sl, sr⟩ r).length = (Kv.upto sl r sl.length).length) := by
          show _ = _
          unfold Kv.since Kv.upto
          rw [List.length_map, List.take_length]
        obtain ⟨nk, hnk⟩ : ∃ nk, nk = (Kv.keysOf sl).length := ⟨_, rfl⟩
        obtain ⟨no, hno⟩ : ∃ no, no = (Kv.since ⟨sl, sr⟩ r).length := ⟨_, rfl⟩
        have TK : Hid (SlT w6 A5 nk c5 (Kv.keysOf sl)) := by rw [hnk]; exact T3.out.readT
        have TO : Hid (SlT w6 A6 no c6 (Kv.since ⟨sl, sr⟩ r)) := by rw [hno]; exact T2.out.readT
        rw [← hnk, ← hno]
        have NK : Hid (nk = sl.length) := hnk.trans SLN.out
        have NO : Hid (no = (Kv.upto sl r sl.length).length) := hno.trans ES.out
        have hnk64 : nk ≤ 64 := by have := NK.out; have := LZ.out; omega
        have hkc := TK.out.cap
        have hkm := TK.out.max
        have hoc := TO.out.cap
        have hom := TO.out.max
        unfold maxLen at hkm hom
        clear hnk hno T1 T2 T3
        go_wp2_with fail
        go_loopw [9, 10] (fun kk i wr => ∃ p : Nat, p ≤ nk ∧ i = .int .i64 p ∧ kk = .int .i64 ((Kv.upto sl r p).length : Nat) ∧ KAt K w q ⟨sl, sr⟩ wr ∧ Below w6.heap.size w6 wr) (fun _ i _ => nk - (intOf i).toNat)
        case atStart => exact ⟨0, by omega, rfl, rfl, K6.out, Below.refl _ _⟩
        case round =>
          obtain ⟨p, hp, rfl, rfl, hkr, hbr⟩ := hrel
          have KP := Lib.hid hkr
          have B := Lib.hid hbr
          have KD := Lib.hid (KP.out.on hC (Below.refl wr.heap.size wr).drew)
          have BD := Lib.hid B.out.drew
          clear hkr hbr
          by_cases hpn : p < nk
          · obtain ⟨b5, o5, rfl⟩ := TK.out.addr (by rw [SLN.out]; have := NK.out; omega)
            have EE : Hid (sl[p]? = some (sl[p]'(by have := NK.out; omega))) := List.getElem?_eq_getElem _
            generalize sl[p]'(by have := NK.out; omega) = e at *
            have EK : Hid ((Kv.keysOf sl)[p]? = some e.key) := by
              show _ = _
              unfold Kv.keysOf
              rw [List.getElem?_map, EE.out]; rfl
            have SN := Lib.hid (Kv.upto_snoc EE.out r)
            have EM : Hid (e ∈ sl) := List.mem_of_getElem? EE.out
            have RV := GD.out.revs e EM.out
            have hrv1 := RV.1
            have hrv2 : e.rev ≤ sr := RV.2
            clear RV
            have EZ : Hid (e.key.size ≤ maxLen) := by have := (GD.out.size e EM.out).2.1; show _ ≤ _; unfold maxLen; omega
            have CG : Hid (∀ W, KAt K w q ⟨sl, sr⟩ W → Calls Try.prog 16 #[.pointer (some ⟨q, 0, none⟩), .string e.key] W fun en w' => en = .returned (.tuple #[.string e.val, .int .i64 e.rev]) ∧ Below W.heap.size W w') := fun W hW => by
              obtain ⟨X, h1, h2, h3⟩ := hW
              have h4 := hC.get W X q ⟨sl, sr⟩ e.key h1 EZ.out
              have VX := getD_en GD.out.rise EE.out
              unfold KGet at h4
              rw [VX.1, VX.2] at h4
              exact h4
            have CR : Hid (∀ W, KAt K w q ⟨sl, sr⟩ W → Calls Try.prog 21 #[.pointer (some ⟨q, 0, none⟩)] W (KInt sr W)) := fun W hW => by
              obtain ⟨X, h1, h2, h3⟩ := hW
              exact hC.rev W X q ⟨sl, sr⟩ h1
            have UL := Kv.upto_len sl r p
            have UA : Hid (r < e.rev → (Kv.since ⟨sl, sr⟩ r)[(Kv.upto sl r p).length]? = some e.key) := fun h => Kv.upto_at (s := ⟨sl, sr⟩) EE.out h
            have UN : Hid (r < e.rev → (Kv.upto sl r p).length < no) := fun h => by
              have h1 := (List.getElem?_eq_some_iff.1 (UA.out h)).1
              have := TO.out.len
              omega
            obtain ⟨u, hu⟩ : ∃ u, u = (Kv.upto sl r p).length := ⟨_, rfl⟩
            rw [← hu] at UL UA UN ⊢
            have HU := Lib.hid hu
            clear hu
            have step : Hid (∀ wq, KAt K w q ⟨sl, sr⟩ wq → Below w6.heap.size w6 wq → wq.cell? ⟨b5, o5 + p, none⟩ = some (.string e.key)) := fun wq _ hb => TK.out.tx EK.out hb
            have kee : (e.key.toList == e.key.toList) = true := Kv.teq.2 rfl
            have SL : Hid ((Kv.upto sl r (p + 1)).length = if r < e.rev then u + 1 else u) := by
              show _ = _
              rw [SN.out, List.length_append, ← HU.out]
              split <;> rfl
            by_cases hp0 : p = 0
            · have hg : decide (0 < p) = false := decide_eq_false (by omega)
              have CL := Lib.hid hp0
              clear hp0
              go_wp2_with fail
              go_region
              generalize wr.drew = wd at *
              have cd := step.out _ KD.out BD.out
              clear CL
              by_cases hrr : r < e.rev
              · have hun := UN.out hrr
                have hg9 : decide (no ≤ u) = false := decide_eq_false (by omega)
                obtain ⟨b6, o6, rfl⟩ := TO.out.addr (by have := (List.getElem?_eq_some_iff.1 (UA.out hrr)).1; omega)
                go_wp2_with (first
                  | (go_at_call 16; (with_reducible refine (CG.out _ KD.out).mono ?_); rintro en w7 ⟨rfl, hb7⟩; have K7 := Lib.hid (KD.out.on hC hb7); have B7 := Lib.hid (BD.out.trans (hb7.mono BD.out.size)); clear hb7)
                  | (go_at_call 21; (with_reducible refine (CR.out _ K7.out).mono ?_); rintro en w8 ⟨rfl, hb8⟩; have K8 := Lib.hid (K7.out.on hC hb8); have B8 := Lib.hid (B7.out.trans (hb8.mono B7.out.size)); clear hb8 cd; have c8 := step.out _ K8.out B8.out; have c9 := TO.out.tx (UA.out hrr) B8.out))
                go_region
                go_wp2_with fail
                exact ⟨⟨p + 1, by omega, by go_num, by rw [SL.out, if_pos hrr]; go_num, K8.out.on hC (Below.refl w8.heap.size w8).drew, B8.out.drew⟩, by simp [intOf]; omega⟩
              · go_wp2_with (first
                  | (go_at_call 16; (with_reducible refine (CG.out _ KD.out).mono ?_); rintro en w7 ⟨rfl, hb7⟩; have K7 := Lib.hid (KD.out.on hC hb7); have B7 := Lib.hid (BD.out.trans (hb7.mono BD.out.size)); clear hb7)
                  | (go_at_call 21; (with_reducible refine (CR.out _ K7.out).mono ?_); rintro en w8 ⟨rfl, hb8⟩; have K8 := Lib.hid (K7.out.on hC hb8); have B8 := Lib.hid (B7.out.trans (hb8.mono B7.out.size)); clear hb8 cd; have c8 := step.out _ K8.out B8.out))
                exact ⟨⟨p + 1, by omega, by go_num, by rw [SL.out, if_neg (by omega)], K8.out, B8.out⟩, by simp [intOf]; omega⟩
            · obtain ⟨p', hp'⟩ : ∃ p', p = p' + 1 := ⟨p - 1, by omega⟩
              have hg : decide (0 < p) = true := decide_eq_true (by omega)
              have E2 : Hid (sl[p']? = some (sl[p']'(by have := NK.out; omega))) := List.getElem?_eq_getElem _
              generalize sl[p']'(by have := NK.out; omega) = f at *
              have FK : Hid ((Kv.keysOf sl)[p']? = some f.key) := by
                show _ = _
                unfold Kv.keysOf
                rw [List.getElem?_map, E2.out]; rfl
              have hle := Kv.le_false (Kv.rise_at GD.out.rise E2.out (by rw [← hp']; exact EE.out))
              have cf := TK.out.tx FK.out B.out
              have ce := step.out _ KP.out B.out
              have hsub : IntKind.i64.wrap ((p : Int) - 1) = ((p' : Nat) : Int) := by rw [IntWalk.i64_in _ (by omega)]; omega
              have hp'n : (p' : Int) < (nk : Int) := by omega
              have hp'0 : (0 : Int) ≤ (p' : Int) := by omega
              have CL := Lib.hid hp'
              clear hp' hp0
              go_wp2_with fail
              go_region
              generalize wr.drew = wd at *
              have cd := step.out _ KD.out BD.out
              clear CL cf ce hsub hle
              by_cases hrr : r < e.rev
              · have hun := UN.out hrr
                have hg9 : decide (no ≤ u) = false := decide_eq_false (by omega)
                obtain ⟨b6, o6, rfl⟩ := TO.out.addr (by have := (List.getElem?_eq_some_iff.1 (UA.out hrr)).1; omega)
                go_wp2_with (first
                  | (go_at_call 16; (with_reducible refine (CG.out _ KD.out).mono ?_); rintro en w7 ⟨rfl, hb7⟩; have K7 := Lib.hid (KD.out.on hC hb7); have B7 := Lib.hid (BD.out.trans (hb7.mono BD.out.size)); clear hb7)
                  | (go_at_call 21; (with_reducible refine (CR.out _ K7.out).mono ?_); rintro en w8 ⟨rfl, hb8⟩; have K8 := Lib.hid (K7.out.on hC hb8); have B8 := Lib.hid (B7.out.trans (hb8.mono B7.out.size)); clear hb8 cd; have c8 := step.out _ K8.out B8.out; have c9 := TO.out.tx (UA.out hrr) B8.out))
                go_region
                go_wp2_with fail
                exact ⟨⟨p + 1, by omega, by go_num, by rw [SL.out, if_pos hrr]; go_num, K8.out.on hC (Below.refl w8.heap.size w8).drew, B8.out.drew⟩, by simp [intOf]; omega⟩
              · go_wp2_with (first
                  | (go_at_call 16; (with_reducible refine (CG.out _ KD.out).mono ?_); rintro en w7 ⟨rfl, hb7⟩; have K7 := Lib.hid (KD.out.on hC hb7); have B7 := Lib.hid (BD.out.trans (hb7.mono BD.out.size)); clear hb7)
                  | (go_at_call 21; (with_reducible refine (CR.out _ K7.out).mono ?_); rintro en w8 ⟨rfl, hb8⟩; have K8 := Lib.hid (K7.out.on hC hb8); have B8 := Lib.hid (B7.out.trans (hb8.mono B7.out.size)); clear hb8 cd; have c8 := step.out _ K8.out B8.out))
                exact ⟨⟨p + 1, by omega, by go_num, by rw [SL.out, if_neg (by omega)], K8.out, B8.out⟩, by simp [intOf]; omega⟩
          · have E : Hid ((Kv.upto sl r p).length = no) := by
              show _ = _
              rw [NO.out, show p = sl.length by have := NK.out; omega]
            rw [E.out]
            have S0 : Hid (Kv.since ⟨sl, sr⟩ sr = []) := Kv.since_own GD.out
            have CR : Hid (∀ W, KAt K w q ⟨sl, sr⟩ W → Calls Try.prog 21 #[.pointer (some ⟨q, 0, none⟩)] W (KInt sr W)) := fun W hW => by
              obtain ⟨X, h1, h2, h3⟩ := hW
              exact hC.rev W X q ⟨sl, sr⟩ h1
            have CS : Hid (∀ W, KAt K w q ⟨sl, sr⟩ W → Calls Try.prog 19 #[.pointer (some ⟨q, 0, none⟩), .int .i64 sr] W (KTx [] W)) := fun W hW => by
              obtain ⟨X, h1, h2, h3⟩ := hW
              have h4 := hC.since W X q ⟨sl, sr⟩ sr h1 ⟨by omega, by omega⟩
              rw [S0.out] at h4
              exact h4
            go_wp2_with (first
              | (go_at_call 21; (with_reducible refine (CR.out _ KP.out).mono ?_); rintro en w8 ⟨rfl, hb8⟩; have K8 := Lib.hid (KP.out.on hC hb8); clear hb8)
              | (go_at_call 19; (with_reducible refine (CS.out _ K8.out).mono ?_); rintro en w9 ⟨v9, rfl, ho9, hb9⟩; obtain ⟨A9, c9, rfl⟩ := ho9.form; have K9 := Lib.hid (K8.out.on hC hb9); clear hb9 ho9))
            go_ret
            exact ⟨rfl, K9.out.below⟩
      · clear hlt hlt'
        go_upto_region 9 with (first
          | (go_at_call 22; (with_reducible refine (kat_keys hC _ _ _ KR.out).mono ?_); rintro e w5 ⟨⟨v5, rfl, ho5⟩, hb5, hk5⟩; obtain ⟨A5, c5, rfl⟩ := ho5.form; have T1 := Lib.hid ho5; have K5 := Lib.hid hk5; clear ho5 hb5 hk5)
          | (go_at_call 19; (with_reducible refine (kat_since hC _ r HR.out _ _ K5.out).mono ?_); rintro e w6 ⟨⟨v6, rfl, ho6⟩, hb6, hk6⟩; obtain ⟨A6, c6, rfl⟩ := ho6.form; have T2 := Lib.hid ho6; have T3 := Lib.hid (OwnTx.any (w1 := w6) (T1.out.below hb6)); have K6 := Lib.hid hk6; clear ho6 hb6 hk6))
        have ES : Hid ((Kv.since ⟨sl, sr⟩ r).length = (Kv.upto sl r sl.length).length) := by
          show _ = _
          unfold Kv.since Kv.upto
          rw [List.length_map, List.take_length]
        obtain ⟨nk, hnk⟩ : ∃ nk, nk = (Kv.keysOf sl).length := ⟨_, rfl⟩
        obtain ⟨no, hno⟩ : ∃ no, no = (Kv.since ⟨sl, sr⟩ r).length := ⟨_, rfl⟩
        have TK : Hid (SlT w6 A5 nk c5 (Kv.keysOf sl)) := by rw [hnk]; exact T3.out.readT
        have TO : Hid (SlT w6 A6 no c6 (Kv.since ⟨sl, sr⟩ r)) := by rw [hno]; exact T2.out.readT
        rw [← hnk, ← hno]
        have NK : Hid (nk = sl.length) := hnk.trans SLN.out
        have NO : Hid (no = (Kv.upto sl r sl.length).length) := hno.trans ES.out
        have hnk64 : nk ≤ 64 := by have := NK.out; have := LZ.out; omega
        have hkc := TK.out.cap
        have hkm := TK.out.max
        have hoc := TO.out.cap
        have hom := TO.out.max
        unfold maxLen at hkm hom
        clear hnk hno T1 T2 T3
        go_wp2_with fail
        go_loopw [9, 10] (fun kk i wr => ∃ p : Nat, p ≤ nk ∧ i = .int .i64 p ∧ kk = .int .i64 ((Kv.upto sl r p).length : Nat) ∧ KAt K w q ⟨sl, sr⟩ wr ∧ Below w6.heap.size w6 wr) (fun _ i _ => nk - (intOf i).toNat)
        case atStart => exact ⟨0, by omega, rfl, rfl, K6.out, Below.refl _ _⟩
        case round =>
          obtain ⟨p, hp, rfl, rfl, hkr, hbr⟩ := hrel
          have KP := Lib.hid hkr
          have B := Lib.hid hbr
          have KD := Lib.hid (KP.out.on hC (Below.refl wr.heap.size wr).drew)
          have BD := Lib.hid B.out.drew
          clear hkr hbr
          by_cases hpn : p < nk
          · obtain ⟨b5, o5, rfl⟩ := TK.out.addr (by rw [SLN.out]; have := NK.out; omega)
            have EE : Hid (sl[p]? = some (sl[p]'(by have := NK.out; omega))) := List.getElem?_eq_getElem _
            generalize sl[p]'(by have := NK.out; omega) = e at *
            have EK : Hid ((Kv.keysOf sl)[p]? = some e.key) := by
              show _ = _
              unfold Kv.keysOf
              rw [List.getElem?_map, EE.out]; rfl
            have SN := Lib.hid (Kv.upto_snoc EE.out r)
            have EM : Hid (e ∈ sl) := List.mem_of_getElem? EE.out
            have RV := GD.out.revs e EM.out
            have hrv1 := RV.1
            have hrv2 : e.rev ≤ sr := RV.2
            clear RV
            have EZ : Hid (e.key.size ≤ maxLen) := by have := (GD.out.size e EM.out).2.1; show _ ≤ _; unfold maxLen; omega
            have CG : Hid (∀ W, KAt K w q ⟨sl, sr⟩ W → Calls Try.prog 16 #[.pointer (some ⟨q, 0, none⟩), .string e.key] W fun en w' => en = .returned (.tuple #[.string e.val, .int .i64 e.rev]) ∧ Below W.heap.size W w') := fun W hW => by
              obtain ⟨X, h1, h2, h3⟩ := hW
              have h4 := hC.get W X q ⟨sl, sr⟩ e.key h1 EZ.out
              have VX := getD_en GD.out.rise EE.out
              unfold KGet at h4
              rw [VX.1, VX.2] at h4
              exact h4
            have CR : Hid (∀ W, KAt K w q ⟨sl, sr⟩ W → Calls Try.prog 21 #[.pointer (some ⟨q, 0, none⟩)] W (KInt sr W)) := fun W hW => by
              obtain ⟨X, h1, h2, h3⟩ := hW
              exact hC.rev W X q ⟨sl, sr⟩ h1
            have UL := Kv.upto_len sl r p
            have UA : Hid (r < e.rev → (Kv.since ⟨sl, sr⟩ r)[(Kv.upto sl r p).length]? = some e.key) := fun h => Kv.upto_at (s := ⟨sl, sr⟩) EE.out h
            have UN : Hid (r < e.rev → (Kv.upto sl r p).length < no) := fun h => by
              have h1 := (List.getElem?_eq_some_iff.1 (UA.out h)).1
              have := TO.out.len
              omega
            obtain ⟨u, hu⟩ : ∃ u, u = (Kv.upto sl r p).length := ⟨_, rfl⟩
            rw [← hu] at UL UA UN ⊢
            have HU := Lib.hid hu
            clear hu
            have step : Hid (∀ wq, KAt K w q ⟨sl, sr⟩ wq → Below w6.heap.size w6 wq → wq.cell? ⟨b5, o5 + p, none⟩ = some (.string e.key)) := fun wq _ hb => TK.out.tx EK.out hb
            have kee : (e.key.toList == e.key.toList) = true := Kv.teq.2 rfl
            have SL : Hid ((Kv.upto sl r (p + 1)).length = if r < e.rev then u + 1 else u) := by
              show _ = _
              rw [SN.out, List.length_append, ← HU.out]
              split <;> rfl
            by_cases hp0 : p = 0
            · have hg : decide (0 < p) = false := decide_eq_false (by omega)
              have CL := Lib.hid hp0
              clear hp0
              go_wp2_with fail
              go_region
              generalize wr.drew = wd at *
              have cd := step.out _ KD.out BD.out
              clear CL
              by_cases hrr : r < e.rev
              · have hun := UN.out hrr
                have hg9 : decide (no ≤ u) = false := decide_eq_false (by omega)
                obtain ⟨b6, o6, rfl⟩ := TO.out.addr (by have := (List.getElem?_eq_some_iff.1 (UA.out hrr)).1; omega)
                go_wp2_with (first
                  | (go_at_call 16; (with_reducible refine (CG.out _ KD.out).mono ?_); rintro en w7 ⟨rfl, hb7⟩; have K7 := Lib.hid (KD.out.on hC hb7); have B7 := Lib.hid (BD.out.trans (hb7.mono BD.out.size)); clear hb7)
                  | (go_at_call 21; (with_reducible refine (CR.out _ K7.out).mono ?_); rintro en w8 ⟨rfl, hb8⟩; have K8 := Lib.hid (K7.out.on hC hb8); have B8 := Lib.hid (B7.out.trans (hb8.mono B7.out.size)); clear hb8 cd; have c8 := step.out _ K8.out B8.out; have c9 := TO.out.tx (UA.out hrr) B8.out))
                go_region
                go_wp2_with fail
                exact ⟨⟨p + 1, by omega, by go_num, by rw [SL.out, if_pos hrr]; go_num, K8.out.on hC (Below.refl w8.heap.size w8).drew, B8.out.drew⟩, by simp [intOf]; omega⟩
              · go_wp2_with (first
                  | (go_at_call 16; (with_reducible refine (CG.out _ KD.out).mono ?_); rintro en w7 ⟨rfl, hb7⟩; have K7 := Lib.hid (KD.out.on hC hb7); have B7 := Lib.hid (BD.out.trans (hb7.mono BD.out.size)); clear hb7)
                  | (go_at_call 21; (with_reducible refine (CR.out _ K7.out).mono ?_); rintro en w8 ⟨rfl, hb8⟩; have K8 := Lib.hid (K7.out.on hC hb8); have B8 := Lib.hid (B7.out.trans (hb8.mono B7.out.size)); clear hb8 cd; have c8 := step.out _ K8.out B8.out))
                exact ⟨⟨p + 1, by omega, by go_num, by rw [SL.out, if_neg (by omega)], K8.out, B8.out⟩, by simp [intOf]; omega⟩
            · obtain ⟨p', hp'⟩ : ∃ p', p = p' + 1 := ⟨p - 1, by omega⟩
              have hg : decide (0 < p) = true := decide_eq_true (by omega)
              have E2 : Hid (sl[p']? = some (sl[p']'(by have := NK.out; omega))) := List.getElem?_eq_getElem _
              generalize sl[p']'(by have := NK.out; omega) = f at *
              have FK : Hid ((Kv.keysOf sl)[p']? = some f.key) := by
                show _ = _
                unfold Kv.keysOf
                rw [List.getElem?_map, E2.out]; rfl
              have hle := Kv.le_false (Kv.rise_at GD.out.rise E2.out (by rw [← hp']; exact EE.out))
              have cf := TK.out.tx FK.out B.out
              have ce := step.out _ KP.out B.out
              have hsub : IntKind.i64.wrap ((p : Int) - 1) = ((p' : Nat) : Int) := by rw [IntWalk.i64_in _ (by omega)]; omega
              have hp'n : (p' : Int) < (nk : Int) := by omega
              have hp'0 : (0 : Int) ≤ (p' : Int) := by omega
              have CL := Lib.hid hp'
              clear hp' hp0
              go_wp2_with fail
              go_region
              generalize wr.drew = wd at *
              have cd := step.out _ KD.out BD.out
              clear CL cf ce hsub hle
              by_cases hrr : r < e.rev
              · have hun := UN.out hrr
                have hg9 : decide (no ≤ u) = false := decide_eq_false (by omega)
                obtain ⟨b6, o6, rfl⟩ := TO.out.addr (by have := (List.getElem?_eq_some_iff.1 (UA.out hrr)).1; omega)
                go_wp2_with (first
                  | (go_at_call 16; (with_reducible refine (CG.out _ KD.out).mono ?_); rintro en w7 ⟨rfl, hb7⟩; have K7 := Lib.hid (KD.out.on hC hb7); have B7 := Lib.hid (BD.out.trans (hb7.mono BD.out.size)); clear hb7)
                  | (go_at_call 21; (with_reducible refine (CR.out _ K7.out).mono ?_); rintro en w8 ⟨rfl, hb8⟩; have K8 := Lib.hid (K7.out.on hC hb8); have B8 := Lib.hid (B7.out.trans (hb8.mono B7.out.size)); clear hb8 cd; have c8 := step.out _ K8.out B8.out; have c9 := TO.out.tx (UA.out hrr) B8.out))
                go_region
                go_wp2_with fail
                exact ⟨⟨p + 1, by omega, by go_num, by rw [SL.out, if_pos hrr]; go_num, K8.out.on hC (Below.refl w8.heap.size w8).drew, B8.out.drew⟩, by simp [intOf]; omega⟩
              · go_wp2_with (first
                  | (go_at_call 16; (with_reducible refine (CG.out _ KD.out).mono ?_); rintro en w7 ⟨rfl, hb7⟩; have K7 := Lib.hid (KD.out.on hC hb7); have B7 := Lib.hid (BD.out.trans (hb7.mono BD.out.size)); clear hb7)
                  | (go_at_call 21; (with_reducible refine (CR.out _ K7.out).mono ?_); rintro en w8 ⟨rfl, hb8⟩; have K8 := Lib.hid (K7.out.on hC hb8); have B8 := Lib.hid (B7.out.trans (hb8.mono B7.out.size)); clear hb8 cd; have c8 := step.out _ K8.out B8.out))
                exact ⟨⟨p + 1, by omega, by go_num, by rw [SL.out, if_neg (by omega)], K8.out, B8.out⟩, by simp [intOf]; omega⟩
          · have E : Hid ((Kv.upto sl r p).length = no) := by
              show _ = _
              rw [NO.out, show p = sl.length by have := NK.out; omega]
            rw [E.out]
            have S0 : Hid (Kv.since ⟨sl, sr⟩ sr = []) := Kv.since_own GD.out
            have CR : Hid (∀ W, KAt K w q ⟨sl, sr⟩ W → Calls Try.prog 21 #[.pointer (some ⟨q, 0, none⟩)] W (KInt sr W)) := fun W hW => by
              obtain ⟨X, h1, h2, h3⟩ := hW
              exact hC.rev W X q ⟨sl, sr⟩ h1
            have CS : Hid (∀ W, KAt K w q ⟨sl, sr⟩ W → Calls Try.prog 19 #[.pointer (some ⟨q, 0, none⟩), .int .i64 sr] W (KTx [] W)) := fun W hW => by
              obtain ⟨X, h1, h2, h3⟩ := hW
              have h4 := hC.since W X q ⟨sl, sr⟩ sr h1 ⟨by omega, by omega⟩
              rw [S0.out] at h4
              exact h4
            go_wp2_with (first
              | (go_at_call 21; (with_reducible refine (CR.out _ KP.out).mono ?_); rintro en w8 ⟨rfl, hb8⟩; have K8 := Lib.hid (KP.out.on hC hb8); clear hb8)
              | (go_at_call 19; (with_reducible refine (CS.out _ K8.out).mono ?_); rintro en w9 ⟨v9, rfl, ho9, hb9⟩; obtain ⟨A9, c9, rfl⟩ := ho9.form; have K9 := Lib.hid (K8.out.on hC hb9); clear hb9 ho9))
            go_ret
            exact ⟨rfl, K9.out.below⟩
end Go.Proofs.Ytmkfiiheeplmgaa
