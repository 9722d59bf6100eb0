/- Rows of eight bytes as the model holds them: plain facts; no program is named here. -/
import Derived.WalkKit
import Derived.RowKit3
namespace Go.Proofs.Ytpnjeoilkaimmaa
/-- Eight bytes. -/
def CB (f : Nat → Int) : Array Value := #[.int .u8 (f 0), .int .u8 (f 1), .int .u8 (f 2), .int .u8 (f 3), .int .u8 (f 4), .int .u8 (f 5), .int .u8 (f 6), .int .u8 (f 7)]
theorem lt8 {P : Nat → Prop} (h0 : P 0) (h1 : P 1) (h2 : P 2) (h3 : P 3) (h4 : P 4) (h5 : P 5) (h6 : P 6) (h7 : P 7) : ∀ k, k < 8 → P k := by
  intro k hk
  match k, hk with
  | 0, _ => exact h0
  | 1, _ => exact h1
  | 2, _ => exact h2
  | 3, _ => exact h3
  | 4, _ => exact h4
  | 5, _ => exact h5
  | 6, _ => exact h6
  | 7, _ => exact h7
theorem CB_size (f : Nat → Int) : (CB f).size = 8 := rfl
theorem CB_at (f : Nat → Int) (k : Nat) (h : k < 8) : (CB f)[k]? = some (.int .u8 (f k)) := by
  revert k; apply lt8 <;> rfl
theorem CB_ext (f g : Nat → Int) (h : ∀ k, k < 8 → f k = g k) : CB f = CB g := by
  unfold CB
  rw [h 0 (by decide), h 1 (by decide), h 2 (by decide), h 3 (by decide), h 4 (by decide), h 5 (by decide), h 6 (by decide), h 7 (by decide)]
theorem CB_set (f : Nat → Int) (k : Nat) (h : k < 8) (x : Int) : (CB f).setIfInBounds k (.int .u8 x) = CB (fun j => if j = k then x else f j) := by
  revert k; apply lt8 <;> rfl
def upto8 (k : Nat) (v : Nat → Int) (z : Nat → Int) : Nat → Int := fun j => if j < k then v j else z j
theorem CB_step (k : Nat) (h : k < 8) (v z : Nat → Int) : (CB (upto8 k v z)).setIfInBounds k (.int .u8 (v k)) = CB (upto8 (k + 1) v z) := by
  revert k; apply lt8 <;> rfl
theorem CB_done (v z : Nat → Int) : CB (upto8 8 v z) = CB v := rfl
theorem CB_none (v z : Nat → Int) : CB (upto8 0 v z) = CB z := rfl
theorem CB_over (f v : Nat → Int) : ((((((((CB f).setIfInBounds 0 (.int .u8 (v 0))).setIfInBounds 1 (.int .u8 (v 1))).setIfInBounds 2 (.int .u8 (v 2))).setIfInBounds 3 (.int .u8 (v 3))).setIfInBounds 4 (.int .u8 (v 4))).setIfInBounds 5 (.int .u8 (v 5))).setIfInBounds 6 (.int .u8 (v 6))).setIfInBounds 7 (.int .u8 (v 7)) = CB v := by
  rw [← CB_none v f, CB_step 0 (by decide), CB_step 1 (by decide), CB_step 2 (by decide), CB_step 3 (by decide), CB_step 4 (by decide), CB_step 5 (by decide), CB_step 6 (by decide), CB_step 7 (by decide), CB_done]
end Go.Proofs.Ytpnjeoilkaimmaa
