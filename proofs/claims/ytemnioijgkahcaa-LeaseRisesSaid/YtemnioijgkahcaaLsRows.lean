/-
  Layer 9 in memory: steps; what is asked of package lease: the list of its calls' contracts over a predicate that tells a table in memory. No condition.
-/
import Derived.Test.YtemnioijgkahcaaRows
import Derived.Test.YtemnioijgkahcaaRowsG
import Derived.Test.YtemnioijgkahcaaKept
import Derived.Test.YtemnioijgkahcaaLsMath
import Derived.OpenShut
namespace Go.Proofs.Ytemnioijgkahcaa
open Go.RowKit Go.Deep

/-- A step. -/
structure Lp where
  kind : Int
  who : Int
  ep : Int
  now : Int
  ttl : Int
  name : ByteArray
abbrev l64In (x : Int) : Prop := -9223372036854775808 ≤ x ∧ x ≤ 9223372036854775807
theorem l64_wf {x : Int} (h : (Lit.int .i64 x).wf = true) : l64In x := by
  simp [Lit.wf, IntKind.min, IntKind.max, IntKind.signed, IntKind.bits] at h
  exact h
structure LpOk (p : Lp) : Prop where
  k : l64In p.kind
  w : l64In p.who
  e : l64In p.ep
  n : l64In p.now
  t : l64In p.ttl
  s : p.name.size ≤ maxLen
def lcells (p : Lp) : List Value := [.int .i64 p.kind, .int .i64 p.who, .int .i64 p.ep, .int .i64 p.now, .int .i64 p.ttl, .string p.name]
def ELp (_ : World) (cs : List Value) (p : Lp) : Prop := cs = lcells p ∧ LpOk p
abbrev SlL (w : World) (A : Option Addr) (n c : Nat) (l : List Lp) : Prop := SlR 6 ELp w A n c l
theorem ELp.on : ∀ w w' cs t, Below w.heap.size w w' → ELp w cs t → ELp w' cs t := fun _ _ _ _ _ h => h
theorem lp_of {H : Type} {enc : TypeId × Value → H} {w : World} {held : Bool} (f : Nat) (cs : List Value) (y : DataW H × List MemPlace) (h : DataW.trod enc Try.prog w 0 (fun _ => true) held f 28 cs = some y) (hl : cs.length = 6) : ∃ t, ELp w cs t := by
  obtain ⟨xs, n, _, _, _, hxl, hf⟩ := DataW.trod_struct Try.underlying28 h
  match cs, hl with
  | [a, b, c, d, e, s], _ =>
    have hxl3 : xs.length = 6 := hxl
    have k1 : Try.prog.cellsOf 3 = 1 := by kernel_rfl
    have k2 : Try.prog.cellsOf 9 = 1 := by kernel_rfl
    have h0 : DataW.trod enc Try.prog w 0 (fun _ => true) held n 3 (([a, b, c, d, e, s].drop 0).take (Try.prog.cellsOf 3)) = xs[0]? := hf 0 _ rfl
    have h1 : DataW.trod enc Try.prog w 0 (fun _ => true) held n 3 (([a, b, c, d, e, s].drop 1).take (Try.prog.cellsOf 3)) = xs[1]? := hf 1 _ rfl
    have h2 : DataW.trod enc Try.prog w 0 (fun _ => true) held n 3 (([a, b, c, d, e, s].drop 2).take (Try.prog.cellsOf 3)) = xs[2]? := hf 2 _ rfl
    have h3 : DataW.trod enc Try.prog w 0 (fun _ => true) held n 3 (([a, b, c, d, e, s].drop 3).take (Try.prog.cellsOf 3)) = xs[3]? := hf 3 _ rfl
    have h4 : DataW.trod enc Try.prog w 0 (fun _ => true) held n 3 (([a, b, c, d, e, s].drop 4).take (Try.prog.cellsOf 3)) = xs[4]? := hf 4 _ rfl
    have h5 : DataW.trod enc Try.prog w 0 (fun _ => true) held n 9 (([a, b, c, d, e, s].drop 5).take (Try.prog.cellsOf 9)) = xs[5]? := hf 5 _ rfl
    rw [k1] at h0 h1 h2 h3 h4
    rw [k2] at h5
    rw [List.getElem?_eq_getElem (by omega)] at h0 h1 h2 h3 h4 h5
    obtain ⟨x0, e0, _, w0⟩ := DataW.trod_int (cs := [a]) Try.underlying3 h0
    obtain ⟨x1, e1, _, w1⟩ := DataW.trod_int (cs := [b]) Try.underlying3 h1
    obtain ⟨x2, e2, _, w2⟩ := DataW.trod_int (cs := [c]) Try.underlying3 h2
    obtain ⟨x3, e3, _, w3⟩ := DataW.trod_int (cs := [d]) Try.underlying3 h3
    obtain ⟨x4, e4, _, w4⟩ := DataW.trod_int (cs := [e]) Try.underlying3 h4
    obtain ⟨x5, e5, _, w5⟩ := DataW.trod_string (cs := [s]) Try.underlying9 h5
    simp at e0 e1 e2 e3 e4 e5
    subst e0 e1 e2 e3 e4 e5
    exact ⟨⟨x0, x1, x2, x3, x4, x5⟩, rfl, l64_wf w0, l64_wf w1, l64_wf w2, l64_wf w3, l64_wf w4, w5⟩
theorem lpCells : Try.prog.cellsOf 28 = 6 := by kernel_rfl
theorem lsteps_of {H : Type} {enc : TypeId × Value → H} {w : World} {held : Bool} {A : Option Addr} {n c : Nat} {f : Nat} {y : DataW H × List MemPlace} (h : DataW.trod enc Try.prog w 0 (fun _ => true) held f 22 [.slice A n c] = some y) : ∃ ts, SlL w A n c ts :=
  slr_of Try.underlying22 lpCells (by omega) lp_of h
theorem lp_info : (Try.prog.info? 28).map (fun i => (i.zero, i.size, i.bytes)) = some (some (.agg #[.int .i64 0, .int .i64 0, .int .i64 0, .int .i64 0, .int .i64 0, .string ⟨#[]⟩]), 6, 56) := by kernel_rfl
abbrev OwnLp (w : World) (B : Nat) (v : Value) (l : List Lp) : Prop := OwnR 6 ELp 28 w w B v l
theorem OwnLp.any {w0 w1 w : World} {e : TypeId} {B : Nat} {v : Value} {l : List Lp} (h : OwnR 6 ELp e w0 w B v l) : OwnR 6 ELp e w1 w B v l := h
theorem OwnR.readL {e : TypeId} {w0 w : World} {B n c : Nat} {A : Option Addr} {l : List Lp} (h : OwnR 6 ELp e w0 w B (.slice A n c) l) : SlL w A n c l := by
  obtain ⟨A', c', e', h2⟩ := (OwnLp.any (w1 := w) h).slr ELp.on (Below.refl _ _)
  injection e' with e1 e2 e3
  subst e1 e2 e3
  exact h2
theorem SlR.addrL {w : World} {A : Option Addr} {n c : Nat} {ts : List Lp} (h : SlL w A n c ts) (hj : 0 < ts.length) : ∃ b o, A = some ⟨b, o, none⟩ := by
  obtain ⟨b, o, cs, e, _⟩ := h.rd 0 ts[0] (List.getElem?_eq_getElem hj)
  exact ⟨b, o, e⟩
/-- What of a step of a row is read. -/
structure LpAt (w : World) (b o : Nat) (p : Lp) : Prop where
  c0 : w.cell? ⟨b, o, none⟩ = some (.int .i64 p.kind)
  c1 : w.cell? ⟨b, o + 1, none⟩ = some (.int .i64 p.who)
  c2 : w.cell? ⟨b, o + 2, none⟩ = some (.int .i64 p.ep)
  c3 : w.cell? ⟨b, o + 3, none⟩ = some (.int .i64 p.now)
  c4 : w.cell? ⟨b, o + 4, none⟩ = some (.int .i64 p.ttl)
  c5 : w.cell? ⟨b, o + 5, none⟩ = some (.string p.name)
theorem SlR.lp {w : World} {b o n c : Nat} {l : List Lp} (h : SlL w (some ⟨b, o, none⟩) n c l) {j : Nat} {x : Lp} (hx : l[j]? = some x) {w' : World} (hb : Below w.heap.size w w') : LpAt w' b (o + j * 6) x := by
  obtain ⟨b', o', cs, e, hl, _, hc, he, _⟩ := h.rd j x hx
  injection e with e; injection e with e1 e2; subst e1 e2
  rw [he] at hc
  exact ⟨(hb.cell (p := ⟨b, o + j * 6, none⟩) hl).trans (hc 0 (by omega)), (hb.cell (p := ⟨b, o + j * 6 + 1, none⟩) hl).trans (hc 1 (by omega)), (hb.cell (p := ⟨b, o + j * 6 + 2, none⟩) hl).trans (hc 2 (by omega)), (hb.cell (p := ⟨b, o + j * 6 + 3, none⟩) hl).trans (hc 3 (by omega)), (hb.cell (p := ⟨b, o + j * 6 + 4, none⟩) hl).trans (hc 4 (by omega)), (hb.cell (p := ⟨b, o + j * 6 + 5, none⟩) hl).trans (hc 5 (by omega))⟩
theorem SlR.lpOk {w : World} {A : Option Addr} {n c : Nat} {l : List Lp} (h : SlL w A n c l) {x : Lp} (hx : x ∈ l) : LpOk x := by
  obtain ⟨j, hj⟩ := List.getElem?_of_mem hx
  obtain ⟨_, _, _, _, _, _, _, h5⟩ := h.rd j x hj
  exact h5.2

/-! The contracts. -/
abbrev LPred := World → (Nat → Prop) → Nat → Ls.St → Prop
def LBool (p : Prop) (w : World) (e : Ending) (w' : World) : Prop := (∃ x : Bool, e = .returned (.bool x) ∧ (x = true ↔ p)) ∧ Below w.heap.size w w'
def lval (s : Ls.St) (k : ByteArray) : Value := .agg #[.int .i64 (Ls.holderOf s.l k), .int .i64 (Ls.epochOf s.l k), .int .i64 (Ls.tillOf s.l k)]
def LGet (s : Ls.St) (k : ByteArray) (w : World) (e : Ending) (w' : World) : Prop := e = .returned (.tuple #[lval s k, .bool (Ls.find s.l k).isSome]) ∧ Below w.heap.size w w'
def LTurn (L : LPred) (X : Nat → Prop) (q : Nat) (s' : Ls.St) (v : Value) (w : World) (e : Ending) (w' : World) : Prop := ∃ X', e = .returned v ∧ L w' X' q s' ∧ (∀ i, X' i → X i ∨ w.heap.size ≤ i) ∧ Kept X w w'
/-- Epochs that no sum wraps, and names that a map holds. -/
def Ls.Few (s : Ls.St) (n : Nat) : Prop := (∀ e ∈ s.l, e.epoch ≤ n) ∧ s.l.length ≤ n
structure LC (L : LPred) : Prop where
  keep : ∀ w w' X q s, L w X q s → w.heap.size ≤ w'.heap.size → (∀ i, X i → w'.heap[i]? = w.heap[i]?) → L w' X q s
  lt : ∀ w X q s, L w X q s → ∀ i, X i → i < w.heap.size
  good : ∀ w X q s, L w X q s → Ls.Good s
  make : ∀ W m, l64In m → Calls Try.prog 9 #[.int .i64 m] W (fun e w' => ∃ q X, e = .returned (.pointer (some ⟨q, 0, none⟩)) ∧ L w' X q (Ls.new m) ∧ (∀ i, X i → W.heap.size ≤ i) ∧ Below W.heap.size W w')
  take : ∀ W X q s k h now ttl, L W X q s → Ls.Few s 1000000 → k.size ≤ maxLen → l64In h → l64In now → l64In ttl → Calls Try.prog 12 #[.pointer (some ⟨q, 0, none⟩), .string k, .int .i64 h, .int .i64 now, .int .i64 ttl] W (LTurn L X q (Ls.takeS s k h now ttl) (.tuple #[.int .i64 (Ls.takeN s k h now ttl), .int .i64 (Ls.takeE s k h now ttl : Nat)]) W)
  renew : ∀ W X q s k h ep now ttl, L W X q s → k.size ≤ maxLen → l64In h → l64In ep → l64In now → l64In ttl → Calls Try.prog 13 #[.pointer (some ⟨q, 0, none⟩), .string k, .int .i64 h, .int .i64 ep, .int .i64 now, .int .i64 ttl] W (LTurn L X q (Ls.renewS s k h ep now ttl) (.tuple #[.int .i64 (Ls.renewN s k h ep now ttl), .int .i64 (Ls.renewE s k h ep now ttl : Nat)]) W)
  drop : ∀ W X q s k h ep, L W X q s → k.size ≤ maxLen → l64In h → l64In ep → Calls Try.prog 14 #[.pointer (some ⟨q, 0, none⟩), .string k, .int .i64 h, .int .i64 ep] W (LTurn L X q (Ls.dropS s k h ep) (.int .i64 (Ls.dropE s k h ep : Nat)) W)
  get : ∀ W X q s k, L W X q s → k.size ≤ maxLen → Calls Try.prog 15 #[.pointer (some ⟨q, 0, none⟩), .string k] W (LGet s k W)
  holds : ∀ W X q s k h ep now, L W X q s → k.size ≤ maxLen → l64In h → l64In ep → l64In now → Calls Try.prog 16 #[.pointer (some ⟨q, 0, none⟩), .string k, .int .i64 h, .int .i64 ep, .int .i64 now] W (LBool (Ls.Holds s k h ep now) W)
  free : ∀ W X q s k now, L W X q s → k.size ≤ maxLen → l64In now → Calls Try.prog 17 #[.pointer (some ⟨q, 0, none⟩), .string k, .int .i64 now] W (LBool (Ls.Free s k now) W)
theorem LC.below {L : LPred} (h : LC L) {w w' : World} {X : Nat → Prop} {q : Nat} {s : Ls.St} (hk : L w X q s) (hb : Below w.heap.size w w') : L w' X q s :=
  h.keep _ _ _ _ _ hk hb.size fun i hi => hb.block i (h.lt _ _ _ _ hk i hi)
/-- A table made since w0, among whose blocks none of F's is. -/
def LAt (L : LPred) (w0 : World) (F : Nat → Prop) (q : Nat) (s : Ls.St) (W : World) : Prop := ∃ X, L W X q s ∧ (∀ i, X i → w0.heap.size ≤ i) ∧ (∀ b, F b → ¬ X b ∧ b < W.heap.size) ∧ Below w0.heap.size w0 W
section
variable {L : LPred} {w0 W W' : World} {F : Nat → Prop} {q : Nat} {s : Ls.St}
theorem LAt.on (hC : LC L) (h : LAt L w0 F q s W) (hb : Below W.heap.size W W') : LAt L w0 F q s W' := by
  obtain ⟨X, h1, h2, h3, h4⟩ := h
  exact ⟨X, hC.below h1 hb, h2, fun b hb2 => ⟨(h3 b hb2).1, Nat.lt_of_lt_of_le (h3 b hb2).2 hb.size⟩, h4.trans (hb.mono h4.size)⟩
theorem LAt.below (h : LAt L w0 F q s W) : Below w0.heap.size w0 W := by
  obtain ⟨X, h1, h2, h3, h4⟩ := h
  exact h4
theorem LAt.good (hC : LC L) (h : LAt L w0 F q s W) : Ls.Good s := by
  obtain ⟨X, h1, h2, h3, h4⟩ := h
  exact hC.good _ _ _ _ h1
theorem LAt.more (hC : LC L) (h : LAt L w0 F q s W) (hb : Below W.heap.size W W') : LAt L w0 (fun b => F b ∨ (W.heap.size ≤ b ∧ b < W'.heap.size)) q s W' := by
  obtain ⟨X, h1, h2, h3, h4⟩ := h
  refine ⟨X, hC.below h1 hb, h2, fun b hb2 => ?_, h4.trans (hb.mono h4.size)⟩
  rcases hb2 with hf | ⟨hge, hlt⟩
  · exact ⟨(h3 b hf).1, Nat.lt_of_lt_of_le (h3 b hf).2 hb.size⟩
  · exact ⟨fun hx => by have := hC.lt _ _ _ _ h1 b hx; omega, hlt⟩
theorem LAt.less {G : Nat → Prop} (h : LAt L w0 F q s W) (hG : ∀ b, G b → F b) : LAt L w0 G q s W := by
  obtain ⟨X, h1, h2, h3, h4⟩ := h
  exact ⟨X, h1, h2, fun b hb => h3 b (hG b hb), h4⟩
/-- What a turning call leaves. -/
def LRes (L : LPred) (w0 : World) (F : Nat → Prop) (q : Nat) (s' : Ls.St) (x : Value) (W : World) (e : Ending) (w' : World) : Prop :=
  e = .returned x ∧ LAt L w0 F q s' w' ∧ ∀ b, F b → w'.heap[b]? = W.heap[b]?
theorem lres_of {X : Nat → Prop} {s' : Ls.St} {x : Value} {e : Ending} {w' : World} (h2 : ∀ i, X i → w0.heap.size ≤ i) (h3 : ∀ b, F b → ¬ X b ∧ b < W.heap.size) (h4 : Below w0.heap.size w0 W) (hp : LTurn L X q s' x W e w') : LRes L w0 F q s' x W e w' := by
  obtain ⟨X', e1, e2, e3, e4⟩ := hp
  refine ⟨e1, ⟨X', e2, fun i hi => ?_, fun b hb => ⟨fun hx => ?_, Nat.lt_of_lt_of_le (h3 b hb).2 e4.size⟩, h4.trans (e4.below h4.size h2)⟩, fun b hb => e4.block b (h3 b hb).2 (h3 b hb).1⟩
  · rcases e3 i hi with h | h
    · exact h2 i h
    · exact Nat.le_trans h4.size h
  · rcases e3 b hx with h | h
    · exact (h3 b hb).1 h
    · have := (h3 b hb).2; omega
theorem lat_take (hC : LC L) {k : ByteArray} {ho now ttl : Int} (h : LAt L w0 F q s W) (hf : Ls.Few s 1000000) (hk : k.size ≤ maxLen) (i1 : l64In ho) (i2 : l64In now) (i3 : l64In ttl) :
    Calls Try.prog 12 #[.pointer (some ⟨q, 0, none⟩), .string k, .int .i64 ho, .int .i64 now, .int .i64 ttl] W (LRes L w0 F q (Ls.takeS s k ho now ttl) (.tuple #[.int .i64 (Ls.takeN s k ho now ttl), .int .i64 (Ls.takeE s k ho now ttl : Nat)]) W) := by
  obtain ⟨X, h1, h2, h3, h4⟩ := h
  exact (hC.take W X q s k ho now ttl h1 hf hk i1 i2 i3).mono fun _ _ hp => lres_of h2 h3 h4 hp
theorem lat_renew (hC : LC L) {k : ByteArray} {ho ep now ttl : Int} (h : LAt L w0 F q s W) (hk : k.size ≤ maxLen) (i1 : l64In ho) (i4 : l64In ep) (i2 : l64In now) (i3 : l64In ttl) :
    Calls Try.prog 13 #[.pointer (some ⟨q, 0, none⟩), .string k, .int .i64 ho, .int .i64 ep, .int .i64 now, .int .i64 ttl] W (LRes L w0 F q (Ls.renewS s k ho ep now ttl) (.tuple #[.int .i64 (Ls.renewN s k ho ep now ttl), .int .i64 (Ls.renewE s k ho ep now ttl : Nat)]) W) := by
  obtain ⟨X, h1, h2, h3, h4⟩ := h
  exact (hC.renew W X q s k ho ep now ttl h1 hk i1 i4 i2 i3).mono fun _ _ hp => lres_of h2 h3 h4 hp
theorem lat_drop (hC : LC L) {k : ByteArray} {ho ep : Int} (h : LAt L w0 F q s W) (hk : k.size ≤ maxLen) (i1 : l64In ho) (i4 : l64In ep) :
    Calls Try.prog 14 #[.pointer (some ⟨q, 0, none⟩), .string k, .int .i64 ho, .int .i64 ep] W (LRes L w0 F q (Ls.dropS s k ho ep) (.int .i64 (Ls.dropE s k ho ep : Nat)) W) := by
  obtain ⟨X, h1, h2, h3, h4⟩ := h
  exact (hC.drop W X q s k ho ep h1 hk i1 i4).mono fun _ _ hp => lres_of h2 h3 h4 hp
theorem lat_get (hC : LC L) {k : ByteArray} (h : LAt L w0 F q s W) (hk : k.size ≤ maxLen) :
    Calls Try.prog 15 #[.pointer (some ⟨q, 0, none⟩), .string k] W (LGet s k W) := by
  obtain ⟨X, h1, h2, h3, h4⟩ := h
  exact hC.get W X q s k h1 hk
theorem lat_holds (hC : LC L) {k : ByteArray} {ho ep now : Int} (h : LAt L w0 F q s W) (hk : k.size ≤ maxLen) (i1 : l64In ho) (i4 : l64In ep) (i2 : l64In now) :
    Calls Try.prog 16 #[.pointer (some ⟨q, 0, none⟩), .string k, .int .i64 ho, .int .i64 ep, .int .i64 now] W (LBool (Ls.Holds s k ho ep now) W) := by
  obtain ⟨X, h1, h2, h3, h4⟩ := h
  exact hC.holds W X q s k ho ep now h1 hk i1 i4 i2
theorem lat_free (hC : LC L) {k : ByteArray} {now : Int} (h : LAt L w0 F q s W) (hk : k.size ≤ maxLen) (i2 : l64In now) :
    Calls Try.prog 17 #[.pointer (some ⟨q, 0, none⟩), .string k, .int .i64 now] W (LBool (Ls.Free s k now) W) := by
  obtain ⟨X, h1, h2, h3, h4⟩ := h
  exact hC.free W X q s k now h1 hk i2
theorem lat_make (hC : LC L) {m : Int} (hm : l64In m) (hb : Below w0.heap.size w0 W) (hv : ∀ b, F b → b < W.heap.size) :
    Calls Try.prog 9 #[.int .i64 m] W (fun e w' => ∃ q, e = .returned (.pointer (some ⟨q, 0, none⟩)) ∧ LAt L w0 F q (Ls.new m) w' ∧ Below W.heap.size W w') :=
  (hC.make W m hm).mono fun _ _ ⟨q, X, h1, h2, h3, h4⟩ => ⟨q, h1, ⟨X, h2, fun i hi => Nat.le_trans hb.size (h3 i hi), fun b hb2 => ⟨fun hx => by have := h3 b hx; have := hv b hb2; omega, Nat.lt_of_lt_of_le (hv b hb2) h4.size⟩, hb.trans (h4.mono hb.size)⟩, h4⟩
end
end Go.Proofs.Ytemnioijgkahcaa
