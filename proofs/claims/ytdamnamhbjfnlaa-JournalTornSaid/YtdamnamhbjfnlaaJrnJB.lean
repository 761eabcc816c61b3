/-
  A journal whose blocks are those from a base world on: contracts that chain through any row of calls, of whatever journal keeps JC.
-/
import Derived.Test.YtdamnamhbjfnlaaJrnJC
import Derived.Test.YtdamnamhbjfnlaaJnLists
import Derived.Test.YtdamnamhbjfnlaaFrMake
namespace Go.Proofs.Ytdamnamhbjfnlaa
open Go.RowKit

theorem sls_own' {W : World} {B x c : Nat} {A : Option Addr} {ls : List (List Nat)} (hx : x = ls.length) (h : OwnS W B (.slice A x c) ls) : SlS W A x c ls := by
  obtain ⟨A', c', e, h2⟩ := h.sls
  injection e with e1 e2 e3
  subst e1 e2 e3
  exact h2
/-- A journal whose blocks are among X, all of them behind the base world w0. -/
structure JBX (J : JPred) (w0 : World) (X : Nat → Prop) (q r : Nat) (d : Dk.St) (W : World) : Prop where
  below : Below w0.heap.size w0 W
  jr : J W X q r d
  inX : ∀ i, X i → w0.heap.size ≤ i
  fresh : ∀ i, W.heap.size ≤ i → X i
abbrev JB (J : JPred) (w0 : World) (q r : Nat) (d : Dk.St) (W : World) : Prop := JBX J w0 (fun i => w0.heap.size ≤ i) q r d W
section
variable {J : JPred} (hJ : JC J) {w0 W W' : World} {X : Nat → Prop} {q r : Nat} {d : Dk.St}
include hJ in
theorem JBX.on (h : JBX J w0 X q r d W) (hb : Below W.heap.size W W') : JBX J w0 X q r d W' := ⟨h.below.trans (hb.mono h.below.size), hJ.below h.jr hb, h.inX, fun i hi => h.fresh i (Nat.le_trans hb.size hi)⟩
theorem JBX.step {d' : Dk.St} {x : Value} {e : Ending} {w' : World} (h : JBX J w0 X q r d W) (hp : JXPost J W X q r d' x e w') : e = .returned x ∧ JBX J w0 X q r d' w' := by
  obtain ⟨rfl, h1, h2⟩ := hp
  exact ⟨rfl, h.below.trans (h2.below h.below.size h.inX), h1, h.inX, fun i hi => h.fresh i (Nat.le_trans h2.size hi)⟩
include hJ in
/-- A row of the call's own grows, apart from the journal: told from an earlier base. -/
theorem JBX.over {w1 : World} {row : Option Nat} (h : JBX J w0 X q r d W) (hb : Below w1.heap.size w1 w0) (hg : W.grownBy W' row) (h1 : ∀ k, row = some k → w1.heap.size ≤ k ∧ ¬ X k) : JBX J w1 X q r d W' :=
  ⟨(hb.trans (h.below.mono hb.size)).grown hg (Nat.le_trans hb.size h.below.size) (fun k hk => (h1 k hk).1),
    hJ.keep _ _ _ _ _ _ h.jr (fun i hi hlt => hg.block i hlt (fun e => (h1 i e.symm).2 hi)), fun i hi => Nat.le_trans hb.size (h.inX i hi), fun i hi => h.fresh i (Nat.le_trans hg.size hi)⟩
end
def JBPost (J : JPred) (w0 : World) (X : Nat → Prop) (q r : Nat) (d : Dk.St) (x : Value) (e : Ending) (w' : World) : Prop := e = .returned x ∧ JBX J w0 X q r d w'
def JBAll (J : JPred) (w0 : World) (X : Nat → Prop) (q r : Nat) (d : Dk.St) (ls : List (List Nat)) (W : World) (e : Ending) (w' : World) : Prop :=
  ∃ A c, e = .returned (.slice A ls.length c) ∧ OwnS w' W.heap.size (.slice A ls.length c) ls ∧ JBX J w0 X q r d w' ∧ Below W.heap.size W w'
section
variable {J : JPred} (hJ : JC J) {w0 : World}
include hJ
theorem jOpen_b (W : World) {B r : Nat} {d : Dk.St} (hb : Below w0.heap.size w0 W) (hd : DskB W B r d) (hB : w0.heap.size ≤ B) (hy : Jn.Byt d) :
    Calls Try.prog 10 #[.pointer (some ⟨r, 0, none⟩)] W fun e w' => ∃ q, e = .returned (.tuple #[.pointer (some ⟨q, 0, none⟩), .int .i64 ((d.l.length : Nat) - (Jn.cutN d : Nat))]) ∧ JB J w0 q r (Jn.opened d) w' := by
  refine (hJ.make W (fun i => w0.heap.size ≤ i) r d (hd.toX fun i hi _ => Nat.le_trans hB hi) hy (fun i hi => Nat.le_trans hb.size hi)).mono ?_
  rintro e w' ⟨q, rfl, h1, h2⟩
  exact ⟨q, rfl, hb.trans (h2.below hb.size fun i hi => hi), h1, fun i hi => hi, fun i hi => Nat.le_trans hb.size (Nat.le_trans h2.size hi)⟩
/-- A journal on a new disk. -/
theorem jNew_b (W : World) {B r : Nat} (n : Int) (hb : Below w0.heap.size w0 W) (hd : DskB W B r (Dk.new n)) (hB : w0.heap.size ≤ B) :
    Calls Try.prog 10 #[.pointer (some ⟨r, 0, none⟩)] W fun e w' => ∃ q, e = .returned (.tuple #[.pointer (some ⟨q, 0, none⟩), .int .i64 0]) ∧ JB J w0 q r (Jn.Js (Dk.fits n) 0 []) w' := by
  refine (jOpen_b hJ W hb hd hB (fun x hx => by cases hx)).mono ?_
  rintro e w' ⟨q, rfl, h1⟩
  rw [Jn.opened_new] at h1
  have h2 : Jn.cutN (Dk.new n) = 0 := by show (Fr.scan []).2.1 = 0; rw [Fr.scan_nil]
  exact ⟨q, by rw [h2]; rfl, h1⟩
variable {X : Nat → Prop} {q r : Nat} {d : Dk.St} (W : World) (h : JBX J w0 X q r d W)
include h
theorem jAppend_b {n c : Nat} {A : Option Addr} {p : List Nat} (hs : Sl W A n c p) (hn : n ≤ 900000000) : Calls Try.prog 16 #[.pointer (some ⟨q, 0, none⟩), .slice A n c] W (JBPost J w0 X q r (Jn.app d p) (.int .i64 (Jn.appE d p))) :=
  (hJ.append W _ q r d n c A p h.jr h.fresh hs hn).mono fun _ _ hp => h.step hp
theorem jTorn_b {n c : Nat} {A : Option Addr} {p : List Nat} {keep : Int} (hs : Sl W A n c p) (hn : n ≤ 900000000) (hk : j64In keep) : Calls Try.prog 24 #[.pointer (some ⟨q, 0, none⟩), .slice A n c, .int .i64 keep] W (JBPost J w0 X q r (Jn.torn d p keep) (.int .i64 (Jn.tornE d p))) :=
  (hJ.torn W _ q r d n c A p keep h.jr h.fresh hs hn hk).mono fun _ _ hp => h.step hp
theorem jSync_b : Calls Try.prog 20 #[.pointer (some ⟨q, 0, none⟩)] W (JBPost J w0 X q r (Dk.sync d) (.int .i64 (Jn.syncN d))) :=
  (hJ.sync W _ q r d h.jr h.fresh).mono fun _ _ hp => h.step hp
theorem jCrash_b {keep : Int} (hk : j64In keep) : Calls Try.prog 22 #[.pointer (some ⟨q, 0, none⟩), .int .i64 keep] W (JBPost J w0 X q r (Jn.crash d keep) (.int .i64 (Jn.lost d keep))) :=
  (hJ.crash W _ q r d keep h.jr h.fresh hk).mono fun _ _ hp => h.step hp
theorem jSwap_b {n c : Nat} {A : Option Addr} {ls : List (List Nat)} (hs : SlS W A n c ls) (hl : ls.length ≤ 1000) (hp : ∀ p ∈ ls, p.length ≤ 900000000) : Calls Try.prog 26 #[.pointer (some ⟨q, 0, none⟩), .slice A n c] W (JBPost J w0 X q r (Jn.swap d ls) (.int .i64 (Jn.swapE d ls))) :=
  (hJ.swap W _ q r d n c A ls h.jr h.fresh hs hl hp).mono fun _ _ hp => h.step hp
theorem jAll_b : Calls Try.prog 28 #[.pointer (some ⟨q, 0, none⟩)] W (JBAll J w0 X q r d (Jn.ents d) W) := by
  refine (hJ.all W _ q r d h.jr).mono ?_
  rintro e w' ⟨A, c, rfl, h1, h2⟩
  exact ⟨A, c, rfl, h1, h.on hJ h2, h2⟩
theorem jLen_b : Calls Try.prog 29 #[.pointer (some ⟨q, 0, none⟩)] W (fun e w' => JBPost J w0 X q r d (.int .i64 ((Jn.ents d).length : Nat)) e w' ∧ Below W.heap.size W w') :=
  (hJ.len W _ q r d h.jr).mono fun _ _ ⟨he, hb⟩ => ⟨⟨he, h.on hJ hb⟩, hb⟩
theorem jSafe_b : Calls Try.prog 30 #[.pointer (some ⟨q, 0, none⟩)] W (fun e w' => JBPost J w0 X q r d (.int .i64 (Jn.safeN d : Nat)) e w' ∧ Below W.heap.size W w') :=
  (hJ.safe W _ q r d h.jr).mono fun _ _ ⟨he, hb⟩ => ⟨⟨he, h.on hJ hb⟩, hb⟩
theorem jRoom_b : Calls Try.prog 31 #[.pointer (some ⟨q, 0, none⟩)] W (fun e w' => JBPost J w0 X q r d (.int .i64 (d.room - d.l.length : Nat)) e w' ∧ Below W.heap.size W w') :=
  (hJ.room W _ q r d h.jr).mono fun _ _ ⟨he, hb⟩ => ⟨⟨he, h.on hJ hb⟩, hb⟩
end

/-! The document's example. -/
theorem ok_one (x : Nat) (hx : x < 256) : Fr.ok [x] := ⟨by simp, by simp, by simpa using hx⟩
theorem all_ok1 {x : Nat} (hx : x < 256) : ∀ p ∈ [[x]], Fr.ok p := by intro p hp; rw [List.mem_singleton.1 hp]; exact ok_one x hx
theorem sl_one8 (w : World) (x : Nat) (hx : x < 256) (X : Int) (e1 : X = (x : Int)) (fr : Nat × Nat) : Sl (w.alloc (.cells #[.int .u8 X] 5 fr)) (some ⟨w.heap.size, 0, none⟩) 1 1 [x] := by
  subst e1
  exact ⟨Rd.made [x] rfl (by intro z hz; simp at hz; omega), rfl, Nat.le_refl _, by unfold maxLen; omega, fun h => by cases h⟩
theorem lv_fits : Dk.fits 100 = 100 := rfl
theorem lv_app1 : Jn.app (Jn.Js 100 0 []) [97] = Jn.Js 100 0 [[97]] ∧ Jn.appE (Jn.Js 100 0 []) [97] = 0 := Jn.js_app (k := 0) (ps := []) (by simp) (ok_one 97 (by omega)) (by simp [Fr.all_nil])
theorem lv_sync : Dk.sync (Jn.Js 100 0 [[97]]) = Jn.Js 100 1 [[97]] ∧ Jn.syncN (Jn.Js 100 0 [[97]]) = 1 := by
  refine ⟨Jn.js_sync, ?_⟩
  unfold Jn.syncN
  rw [Jn.js_ents (all_ok1 (by omega)), Jn.js_safe (all_ok1 (by omega)) (by simp)]
  rfl
theorem lv_app2 : Jn.app (Jn.Js 100 1 [[97]]) [98] = Jn.Js 100 1 [[97], [98]] ∧ Jn.appE (Jn.Js 100 1 [[97]]) [98] = 0 :=
  Jn.js_app (k := 1) (ps := [[97]]) (by simp) (ok_one 98 (by omega)) (by rw [Fr.all_one, Fr.fr_length]; simp)
theorem lv_ok : ∀ p ∈ [[97], [98]], Fr.ok p := by
  intro p hp
  simp at hp
  rcases hp with rfl | rfl
  · exact ok_one 97 (by omega)
  · exact ok_one 98 (by omega)
theorem lv_crash : Jn.crash (Jn.Js 100 1 [[97], [98]]) 6 = Jn.Js 100 1 [[97]] ∧ Jn.lost (Jn.Js 100 1 [[97], [98]]) 6 = 1 := by
  obtain ⟨h1, h2, h3⟩ := Jn.js_crash (R := 100) lv_ok (k := 1) (by simp) 6
  have hl : (Fr.all (([[97], [98]] : List (List Nat)).take 1)).length = 7 := by simp [Fr.all_one, Fr.fr_length]
  have hk : Dk.kept (Jn.Js 0 1 [[97], [98]]) 6 = 6 := by
    have : Dk.opens (Jn.Js 0 1 [[97], [98]]) = 7 := by
      show (Fr.all [[97], [98]]).length - (Fr.all (([[97], [98]] : List (List Nat)).take 1)).length = 7
      rw [hl, Fr.all_cons, Fr.all_one, List.length_append, Fr.fr_length, Fr.fr_length]
      rfl
    unfold Dk.kept
    omega
  have hc : Jn.crN 1 [[97], [98]] 6 = 1 := by
    unfold Jn.crN
    rw [hl, hk, Fr.all_cons, Fr.all_one, List.take_append, List.take_of_length_le (by rw [Fr.fr_length]; simp), Fr.fr_length, Fr.scan_fr (ok_one 97 (by omega)), Fr.scan_cut (ok_one 98 (by omega)) (by simp)]
    rfl
  rw [hc] at h1
  have h4 : Jn.crash (Jn.Js 100 1 [[97], [98]]) 6 = Jn.Js 100 1 [[97]] := h1
  refine ⟨h4, ?_⟩
  unfold Jn.lost
  rw [h4, Jn.js_ents lv_ok, Jn.js_ents (all_ok1 (by omega))]
  rfl
theorem lv_text : txt [97] = ⟨#[97]⟩ := rfl
set_option maxHeartbeats 1600000 in
theorem jlives_any {J : JPred} (hJ : JC J) (w : World) : Calls Try.prog 9 #[] w fun e w' => e = .returned (.bool true) ∧ Below w.heap.size w w' := by
  have HJ := Lib.hid hJ
  clear hJ
  go_enter Try.func9, Try.ntmps9
  go_wp2_with fail
  (with_reducible refine (dNew_at w 100 (Below.refl _ _)).mono ?_)
  rintro e w1 ⟨r, rfl, _, hd1, hb1, _⟩
  have C1 := Lib.hid (jNew_b HJ.out w1 100 hb1 hd1 (Nat.le_refl _))
  rw [lv_fits] at C1
  clear hd1 hb1
  go_wp2_with fail
  (with_reducible refine C1.out.mono ?_)
  rintro e w2 ⟨q, rfl, hp2⟩
  have P2a := Lib.hid (hp2.on HJ.out (alloc_below w2 (.cells #[.int .u8 97] 5 (1, 2))))
  clear C1 hp2
  have hcv := Lib.run_convert_bytes_const (P := Try.prog) w2 33 5 #[.int .u8 97] 1 1 Try.underlying33 Try.underlying5
  go_wp2_with fail
  clear hcv
  refine (jAppend_b HJ.out _ P2a.out (sl_one8 w2 97 (by omega) 97 rfl _) (by omega)).mono ?_
  rw [lv_app1.1, lv_app1.2]
  rintro e w3 ⟨rfl, hp3⟩
  have P3 := Lib.hid hp3
  clear hp3 P2a
  go_wp2_with fail
  refine (jSync_b HJ.out _ P3.out).mono ?_
  rw [lv_sync.1, lv_sync.2]
  rintro e w4 ⟨rfl, hp4⟩
  have P4a := Lib.hid (hp4.on HJ.out (alloc_below w4 (.cells #[.int .u8 98] 5 (1, 2))))
  clear hp4 P3
  have hcv := Lib.run_convert_bytes_const (P := Try.prog) w4 33 5 #[.int .u8 98] 1 1 Try.underlying33 Try.underlying5
  go_wp2_with fail
  clear hcv
  refine (jAppend_b HJ.out _ P4a.out (sl_one8 w4 98 (by omega) 98 rfl _) (by omega)).mono ?_
  rw [lv_app2.1, lv_app2.2]
  rintro e w5 ⟨rfl, hp5⟩
  have P5 := Lib.hid hp5
  clear hp5 P4a
  go_wp2_with fail
  refine (jCrash_b HJ.out _ P5.out (keep := 6) (by omega)).mono ?_
  rw [lv_crash.1, lv_crash.2]
  rintro e w6 ⟨rfl, hp6⟩
  have P6 := Lib.hid hp6
  clear hp6 P5
  go_wp2_with fail
  refine (jAll_b HJ.out _ P6.out).mono ?_
  rw [Jn.js_ents (all_ok1 (by omega))]
  rintro e w7 ⟨A7, c7, rfl, ho7, hp7, _⟩
  obtain ⟨A7', c7', e7, hs7⟩ := ho7.sls
  injection e7 with e1 e2 e3
  subst e1 e3
  obtain ⟨b7, o7, rfl, _, hrow⟩ := hs7.rd (by simp)
  obtain ⟨A8, n8, c8, hc8, hs8⟩ := hrow 0 (by simp)
  have hc8' : w7.cell? ⟨b7, o7, none⟩ = some (.slice A8 n8 c8) := hc8
  have hn8 : n8 = 1 := hs8.len
  subst hn8
  have hcv := conv_rd (c := c8) (n := 1) (l := [97]) hs8.rd rfl
  rw [lv_text] at hcv
  have hcap : 1 ≤ c7 := hs7.cap
  have P7 := Lib.hid hp7
  clear ho7 hp7 hs7 hrow hc8 hs8 P6
  go_wp2_with fail
  refine (jSafe_b HJ.out _ P7.out).mono ?_
  rw [Jn.js_safe (all_ok1 (by omega)) (by simp)]
  rintro e w8 ⟨⟨rfl, hp8⟩, _⟩
  have B8 := Lib.hid hp8.below
  clear hp8 P7
  go_wp2_with fail
  go_ret
  exact ⟨rfl, B8.out⟩
end Go.Proofs.Ytdamnamhbjfnlaa
