/- slices.SortStableFunc's family: what a program must bear (its numbers are this program's), and that this program bears it. -/
import Derived.Shelf.SlSortCmp.KitK
import Derived.Sort.LotA
import Derived.Test.YtigifbijmchdcaaProg
namespace Go.Proofs.Ytigifbijmchdcaa
open Go.Shelf Go.RowKit Go.Lib Go.Sort
/-- The sort of the shelf, at this program's numbers. -/
def ins_ren : Go.Shelf.Ren := ⟨fun | 20 => 30 | n => n, fun | 0 => 0 | 3 => 3 | 4 => 4 | 22 => 22 | 24 => 29 | 25 => 50 | n => n, fun | n => n⟩
structure StabLay (P : Program) : Prop where
  mixed : P.follows .mixedOrders = true
  ins : SlLaysF0.n20 P ins_ren
  f_swapRangeCmpFunc : P.funcs[35]? = some Try.f35
  f_rotateCmpFunc : P.funcs[34]? = some Try.f34
  f_symMergeCmpFunc : P.funcs[31]? = some Try.f31
  f_stableCmpFunc : P.funcs[26]? = some Try.f26
  f_SortStableFunc : P.funcs[23]? = some Try.f23
  t0 : P.underlying 0 = some (.tuple #[])
  a0 : ∀ w, (isAgg 0).run P w = .ok false w
  z0 : ∀ w, (Go.sizeOf 0).run P w = .ok 1 w
  v0 : ∀ w, (zeroValue 0).run P w = .ok (.tuple #[]) w
  t3 : P.underlying 3 = some (.int .i64)
  a3 : ∀ w, (isAgg 3).run P w = .ok false w
  z3 : ∀ w, (Go.sizeOf 3).run P w = .ok 1 w
  v3 : ∀ w, (zeroValue 3).run P w = .ok (.int .i64 0) w
  t4 : P.underlying 4 = some (.bool)
  a4 : ∀ w, (isAgg 4).run P w = .ok false w
  z4 : ∀ w, (Go.sizeOf 4).run P w = .ok 1 w
  v4 : ∀ w, (zeroValue 4).run P w = .ok (.bool false) w
  t22 : P.underlying 22 = some (.slice 29)
  a22 : ∀ w, (isAgg 22).run P w = .ok false w
  z22 : ∀ w, (Go.sizeOf 22).run P w = .ok 1 w
  v22 : ∀ w, (zeroValue 22).run P w = .ok (.slice none 0 0) w
  t50 : P.underlying 50 = some (.func #[29, 29] #[3] false)
  a50 : ∀ w, (isAgg 50).run P w = .ok false w
  z50 : ∀ w, (Go.sizeOf 50).run P w = .ok 1 w
  v50 : ∀ w, (zeroValue 50).run P w = .ok (.nilFunc) w
  t60 : P.underlying 60 = some (.int .u64)
  a60 : ∀ w, (isAgg 60).run P w = .ok false w
  z60 : ∀ w, (Go.sizeOf 60).run P w = .ok 1 w
  v60 : ∀ w, (zeroValue 60).run P w = .ok (.int .u64 0) w
theorem ins_laid : SlLaysF0.n20 Try.prog ins_ren := {
  mixed := by kernel_rfl
  f20 := ⟨"slices.insertionSortCmpFunc[shellgame/policy.Item]", by decide, Try.func30.trans (congrArg some (by kernel_rfl))⟩
  t0 := Try.underlying0
  a0 := Try.isAgg0
  z0 := Try.sizeOf0
  v0 := Try.zeroValue0
  t3 := Try.underlying3
  a3 := Try.isAgg3
  z3 := Try.sizeOf3
  v3 := Try.zeroValue3
  t4 := Try.underlying4
  a4 := Try.isAgg4
  z4 := Try.sizeOf4
  v4 := Try.zeroValue4
  t22 := Try.underlying22
  a22 := Try.isAgg22
  z22 := Try.sizeOf22
  v22 := Try.zeroValue22
  t25 := Try.underlying50
  a25 := Try.isAgg50
  z25 := Try.sizeOf50
  v25 := Try.zeroValue50 }
theorem stab_laid : StabLay Try.prog := {
  mixed := by kernel_rfl
  ins := ins_laid
  f_swapRangeCmpFunc := Try.func35
  f_rotateCmpFunc := Try.func34
  f_symMergeCmpFunc := Try.func31
  f_stableCmpFunc := Try.func26
  f_SortStableFunc := Try.func23
  t0 := Try.underlying0
  a0 := Try.isAgg0
  z0 := Try.sizeOf0
  v0 := Try.zeroValue0
  t3 := Try.underlying3
  a3 := Try.isAgg3
  z3 := Try.sizeOf3
  v3 := Try.zeroValue3
  t4 := Try.underlying4
  a4 := Try.isAgg4
  z4 := Try.sizeOf4
  v4 := Try.zeroValue4
  t22 := Try.underlying22
  a22 := Try.isAgg22
  z22 := Try.sizeOf22
  v22 := Try.zeroValue22
  t50 := Try.underlying50
  a50 := Try.isAgg50
  z50 := Try.sizeOf50
  v50 := Try.zeroValue50
  t60 := Try.underlying60
  a60 := Try.isAgg60
  z60 := Try.sizeOf60
  v60 := Try.zeroValue60 }
end Go.Proofs.Ytigifbijmchdcaa
