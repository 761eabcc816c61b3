/-
  '==' of structs and arrays, field by field. No program is named.
-/
import Derived.Test.YtgljepjflpijiaaBase
namespace Go.Proofs.Ytgljepjflpijiaa
open Go.RowKit
section
variable {P : Program} {W : World}
theorem eqf_nil {d : Nat} {xs ys : Array Value} : (Op.eqFields d xs ys []).run P W = .ok true W := rfl
theorem eqf_cons {d : Nat} {xs ys : Array Value} {f : Field} {fs : List Field} {a b : Value} {r R : Bool} (hn : f.name ≠ "_") (h1 : (part f.type xs f.offset).run P W = .ok a W) (h2 : (part f.type ys f.offset).run P W = .ok b W)
    (h3 : (Op.equalIn d f.type a b).run P W = .ok r W) (h4 : (Op.eqFields d xs ys fs).run P W = .ok R W) : (Op.eqFields d xs ys (f :: fs)).run P W = .ok (r && R) W := by
  cases r <;> simp [Op.eqFields, hn, h1, h2, h3, h4, Sem.run_bind, Result.andThen]
theorem eqi_nil {d : Nat} {e : TypeId} {c : Nat} {xs ys : Array Value} : (Op.eqItems d e c xs ys []).run P W = .ok true W := rfl
theorem eqi_cons {d : Nat} {e : TypeId} {c : Nat} {xs ys : Array Value} {i : Nat} {is : List Nat} {a b : Value} {r R : Bool} (h1 : (part e xs (i * c)).run P W = .ok a W) (h2 : (part e ys (i * c)).run P W = .ok b W)
    (h3 : (Op.equalIn d e a b).run P W = .ok r W) (h4 : (Op.eqItems d e c xs ys is).run P W = .ok R W) : (Op.eqItems d e c xs ys (i :: is)).run P W = .ok (r && R) W := by
  cases r <;> simp [Op.eqItems, h1, h2, h3, h4, Sem.run_bind, Result.andThen]
end
end Go.Proofs.Ytgljepjflpijiaa
