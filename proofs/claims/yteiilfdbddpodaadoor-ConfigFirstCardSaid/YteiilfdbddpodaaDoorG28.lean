/- Texts of ours put together: Errs, ErrAs. -/
import Derived.Test.YteiilfdbddpodaaDoorChecked
import Derived.WalkKit
import Derived.LaidEql
import Derived.Stop.Asserts
import Derived.RowKitTokens
import Derived.Test.YteiilfdbddpodaaDoorG3
/- errors.Is and errors.As at the package's own types: an error that is none, or a Fault that wraps an Errno; the library's text is walked. Nothing that was in memory changes but As' target, which is set. Conditions: as they are named. -/
namespace Go.Proofs.YteiilfdbddpodaaDoor
set_option maxRecDepth 100000
open Go.RowKit Go.Extern.Stop Go.Stop Go.Extern

theorem run_equalIn_iface_int {P : Program} {w : World} (d : Nat) {ti tp : TypeId} {k : IntKind} {ms : Array (String × TypeId)} {i : TypeInfo} (a b : Int)
    (hi : P.underlying ti = some (.interface ms)) (hp : P.underlying tp = some (.int k)) (hinfo : P.info? tp = some i) (hcomp : i.comparable = true) :
    (Op.equalIn (d + 2) ti (.iface tp (.int k a)) (.iface tp (.int k b))).run P w = .ok (a == b) w := by
  simp [Op.equalIn, run_underlying hi, run_underlying hp, typeInfo, hinfo, hcomp]
theorem run_eql_iface_int {P : Program} {w : World} {ti tp : TypeId} {k : IntKind} {ms : Array (String × TypeId)} {i : TypeInfo} (a b : Int)
    (hi : P.underlying ti = some (.interface ms)) (hp : P.underlying tp = some (.int k)) (hinfo : P.info? tp = some i) (hcomp : i.comparable = true) :
    (binOp .eql ti (.iface tp (.int k a)) (.iface tp (.int k b))).run P w = .ok (.bool (a == b)) w := by
  simp only [binOp]
  simp [Op.equal, Op.maxDepth, run_equalIn_iface_int 9998 a b hi hp hinfo hcomp]

theorem errTypeOf (v : Value) (w : World) : (Extern.ReflectliteType.typeOf #[.iface 25 v]).run Tryd.prog w = .ok (.iface 116 (.agg #[.pointer (some ⟨1, 25, none⟩)])) w := by kernel_rfl
/-- The library's entry for (rtype).Comparable. -/
def errCmpE : Array Value → Sem Value := Extern.ReflectliteType.method fun t => do Extern.Rtype.noPackHeld "Comparable" t; pure (.bool (← typeInfo t).comparable)
theorem errComparable (w : World) : (errCmpE #[.agg #[.pointer (some ⟨1, 25, none⟩)]]).run Tryd.prog w = .ok (.bool true) w := by kernel_rfl
theorem errMethodComparable (v : Value) (w : World) : (Go.method 264 116 v "Comparable").run Tryd.prog w = .ok (107, v) w := by kernel_rfl
theorem errComp : (Tryd.prog.info? 25).map (·.comparable) = some true := by kernel_rfl
theorem noIsE (v : Value) (xT : TypeId) (w : World) : (Instr.typeAssert (.iface 25 v) xT 118 true).run Tryd.prog w = .ok (.tuple #[.nilIface, .bool false]) w := run_typeAssert_lacksB Tryd.underlying118 (by kernel_rfl) (by kernel_rfl) v xT w
theorem noUnwrapE (v : Value) (xT : TypeId) (w : World) : (Instr.typeAssert (.iface 25 v) xT 121 true).run Tryd.prog w = .ok (.tuple #[.nilIface, .bool false]) w := run_typeAssert_lacksB Tryd.underlying121 (by kernel_rfl) (by kernel_rfl) v xT w
theorem noUnwrapsE (v : Value) (xT : TypeId) (w : World) : (Instr.typeAssert (.iface 25 v) xT 123 true).run Tryd.prog w = .ok (.tuple #[.nilIface, .bool false]) w := run_typeAssert_lacksB Tryd.underlying123 (by kernel_rfl) (by kernel_rfl) v xT w
theorem noIsF (v : Value) (xT : TypeId) (w : World) : (Instr.typeAssert (.iface 60 v) xT 118 true).run Tryd.prog w = .ok (.tuple #[.nilIface, .bool false]) w := run_typeAssert_lacksB Tryd.underlying118 (by kernel_rfl) (by kernel_rfl) v xT w
theorem hasUnwrapF (v : Value) (xT : TypeId) (w : World) : (Instr.typeAssert (.iface 60 v) xT 121 true).run Tryd.prog w = .ok (.tuple #[.iface 60 v, .bool true]) w := run_typeAssert_hasB Tryd.underlying121 (by kernel_rfl) v xT w
theorem methodUnwrapF (v : Value) (w : World) : (Go.method 264 60 v "Unwrap").run Tryd.prog w = .ok (101, v) w := by kernel_rfl
theorem unwrap_any (g : Nat) (e : Int) (w : World) (h : w.cell? ⟨g, 1, none⟩ = some (.int .i64 e)) : Calls Tryd.prog 101 #[.pointer (some ⟨g, 0, none⟩)] w fun en w' => en = .returned (.iface 25 (.int .i64 e)) ∧ w' = w := by
  go_enter Tryd.func101, Tryd.ntmps101
  go_wp2
  go_ret
  exact ⟨rfl, rfl⟩
/-- errors.Is(nil, e). -/
theorem is_nil (b : Int) (w : World) :
    Calls Tryd.prog 30 #[.nilIface, .iface 25 (.int .i64 b)] w fun e w' => e = .returned (.bool false) ∧ w' = w := by
  have hn := run_eql_iface_nil_left (P := Tryd.prog) w 25 (.int .i64 b) Tryd.underlying58
  go_enter Tryd.func30, Tryd.ntmps30
  go_wp2
  go_ret
  exact ⟨rfl, rfl⟩
set_option maxHeartbeats 2000000 in
/-- errors.Is(f, e), f a Fault that wraps a. -/
theorem is_fault (g : Nat) (a b : Int) (w : World) (h1 : w.cell? ⟨g, 1, none⟩ = some (.int .i64 a)) :
    Calls Tryd.prog 30 #[.iface 60 (.pointer (some ⟨g, 0, none⟩)), .iface 25 (.int .i64 b)] w fun e w' => e = .returned (.bool (a == b)) ∧ w' = w := by
  obtain ⟨i, hi, hcmp⟩ := Option.map_eq_some_iff.1 errComp
  have h8 := @run_callFunc_extern Tryd.prog 51 _ Extern.ReflectliteType.typeOf Tryd.func51 (by kernel_rfl) (by kernel_rfl) (by kernel_rfl) (by kernel_rfl)
  have h32 := @run_callFunc_extern Tryd.prog 107 _ errCmpE Tryd.func107 (by kernel_rfl) (by kernel_rfl) (by kernel_rfl) (by kernel_rfl)
  have tT := errTypeOf
  have cT := errComparable
  have mR := errMethodComparable
  have nE := noIsE
  have uE := noUnwrapE
  have vE := noUnwrapsE
  have nW := noIsF
  have uW := hasUnwrapF
  have mU := methodUnwrapF
  have heq := run_eql_iface_int (P := Tryd.prog) (w := w) a b Tryd.underlying58 Tryd.underlying25 hi hcmp
  have hty := run_eql_iface_types (P := Tryd.prog) 60 25 (.pointer (some ⟨g, 0, none⟩)) (.int .i64 b) Tryd.underlying58 (by decide) w
  cases hab : (a == b)
  · rw [hab] at heq
    go_enter Tryd.func30, Tryd.ntmps30
    go_wp2
    refine wp_loop_rounds 2 ?_
    rw [rounds_succ]
    go_wp2
    rw [rounds_succ]
    go_wp2
    go_ret
    exact ⟨rfl, rfl⟩
  · rw [hab] at heq
    go_enter Tryd.func30, Tryd.ntmps30
    go_wp2
    refine wp_loop_rounds 2 ?_
    rw [rounds_succ]
    go_wp2
    rw [rounds_succ]
    go_wp2
    go_ret
    exact ⟨rfl, rfl⟩
end Go.Proofs.YteiilfdbddpodaaDoor

/- errors.As of a Fault into a variable of its own type: the library's text is walked; the entries that look at memory by laws of their own. Nothing that was in memory changes but the variable, which is set. Conditions: the library's variable of the type error holds that type; the variable is there. -/
namespace Go.Proofs.YteiilfdbddpodaaDoor
set_option maxRecDepth 100000
open Go.RowKit Go.Extern.Stop Go.Stop Go.Extern

/-! The library's entries, each under a name. -/
def asValueE : Array Value → Sem Value := fun args => ReflectliteValue.unpack (args.getD 0 (.tuple #[]))
def asTypeE : Array Value → Sem Value := ReflectliteValue.methodAny (ReflectliteValue.valueError "reflectlite.Value.Type" 0) fun t _ _ _ => ReflectliteType.toType t
def asNilE : Array Value → Sem Value := ReflectliteValue.method (ReflectliteValue.valueError "reflectlite.Value.IsNil" 0) ReflectliteValue.isNil
def asVelemE : Array Value → Sem Value := ReflectliteValue.method (ReflectliteValue.valueError "reflectlite.Value.Elem" 0) ReflectliteValue.elem
def asKindE : Array Value → Sem Value := ReflectliteType.abiMethod fun t => do pure (.int .u8 (← Rtype.kind t))
def asElemE : Array Value → Sem Value := ReflectliteType.method ReflectliteType.elem
def asImplE : Array Value → Sem Value := ReflectliteType.relation "Implements" ReflectliteType.implements_
def asAssE : Array Value → Sem Value := ReflectliteType.relation "AssignableTo" ReflectliteType.assignableTo
/-- A type's handle, a Value of the library's. -/
def hnd (t : Nat) : Value := .pointer (some ⟨1, t, none⟩)
def vlu (t : Nat) (p : Addr) (f : Int) : Value := .agg #[hnd t, .pointer (some p), .int .u64 f]

theorem as_valueT (t : Addr) (w : World) : (asValueE #[.iface 64 (.pointer (some t))]).run Tryd.prog w = .ok (vlu 64 ⟨w.heap.size, 0, none⟩ 150) (w.alloc (.cells #[.pointer (some t)] 64)) := by kernel_rfl
theorem as_valueF (t : Addr) (w : World) : (asValueE #[.iface 60 (.pointer (some t))]).run Tryd.prog w = .ok (vlu 60 ⟨w.heap.size, 0, none⟩ 150) (w.alloc (.cells #[.pointer (some t)] 60)) := by kernel_rfl
theorem as_typeT (a : Addr) (w : World) : (asTypeE #[vlu 64 a 150]).run Tryd.prog w = .ok (.iface 116 (.agg #[hnd 64])) w := by kernel_rfl
theorem as_mKind (h : Value) (w : World) : (Go.method 264 116 (.agg #[h]) "Kind").run Tryd.prog w = .ok (96, h) w := by kernel_rfl
theorem as_mElem (h : Value) (w : World) : (Go.method 264 116 (.agg #[h]) "Elem").run Tryd.prog w = .ok (108, .agg #[h]) w := by kernel_rfl
theorem as_mImpl (h : Value) (w : World) : (Go.method 264 116 (.agg #[h]) "Implements").run Tryd.prog w = .ok (109, .agg #[h]) w := by kernel_rfl
theorem as_mAss (h : Value) (w : World) : (Go.method 264 116 (.agg #[h]) "AssignableTo").run Tryd.prog w = .ok (106, .agg #[h]) w := by kernel_rfl
theorem as_kindT (w : World) : (asKindE #[hnd 64]).run Tryd.prog w = .ok (.int .u8 22) w := by kernel_rfl
theorem as_kindF (w : World) : (asKindE #[hnd 60]).run Tryd.prog w = .ok (.int .u8 22) w := by kernel_rfl
theorem as_elemT (w : World) : (asElemE #[.agg #[hnd 64]]).run Tryd.prog w = .ok (.iface 116 (.agg #[hnd 60])) w := by kernel_rfl
theorem as_implF (w : World) : (asImplE #[.agg #[hnd 60], .iface 116 (.agg #[hnd 58])]).run Tryd.prog w = .ok (.bool true) w := by kernel_rfl
theorem as_typeOfF (v : Value) (w : World) : (ReflectliteType.typeOf #[.iface 60 v]).run Tryd.prog w = .ok (.iface 116 (.agg #[hnd 60])) w := by kernel_rfl
theorem as_assF (w : World) : (asAssE #[.agg #[hnd 60], .iface 116 (.agg #[hnd 60])]).run Tryd.prog w = .ok (.bool true) w := by kernel_rfl

theorem as_partsT (a : Addr) (w : World) : (ReflectliteValue.parts (vlu 64 a 150)).run Tryd.prog w = .ok (some (64, a, 150)) w := by kernel_rfl
theorem as_partsF (a : Addr) (w : World) : (ReflectliteValue.parts (vlu 60 a 150)).run Tryd.prog w = .ok (some (60, a, 150)) w := by kernel_rfl
theorem as_partsA (a : Addr) (w : World) : (ReflectliteValue.parts (vlu 60 a 406)).run Tryd.prog w = .ok (some (60, a, 406)) w := by kernel_rfl
theorem as_elemOf (w : World) : (Rtype.elem? 64).run Tryd.prog w = .ok (some 60) w := by kernel_rfl
theorem as_mk (p : Addr) (w : World) : (ReflectliteValue.mk 60 p ReflectliteValue.flagAddr).run Tryd.prog w = .ok (vlu 60 p 406) w := by kernel_rfl
theorem as_direct (w : World) : (Rtype.directlyAssignable 60 60).run Tryd.prog w = .ok true w := by kernel_rfl
theorem as_nilT (a p : Addr) (w : World) (ha : w.cell? a = some (.pointer (some p))) : (asNilE #[vlu 64 a 150]).run Tryd.prog w = .ok (.bool false) w := by
  change Sem.run Tryd.prog (ReflectliteValue.parts (vlu 64 a 150) >>= _) w = _
  rw [Sem.run_bind, as_partsT]
  dsimp only [Result.andThen]
  simp [ReflectliteValue.isNil, loadVar, isAgg, underlying, Tryd.underlying64, ha, Result.andThen]
theorem as_velemT (a p : Addr) (w : World) (ha : w.cell? a = some (.pointer (some p))) : (asVelemE #[vlu 64 a 150]).run Tryd.prog w = .ok (vlu 60 p 406) w := by
  change Sem.run Tryd.prog (ReflectliteValue.parts (vlu 64 a 150) >>= _) w = _
  rw [Sem.run_bind, as_partsT]
  dsimp only [Result.andThen]
  simp [ReflectliteValue.elem, loadVar, isAgg, underlying, Tryd.underlying64, ha, Result.andThen, as_elemOf, as_mk]
theorem as_setF (t b e : Addr) (old : Value) (w : World) (hb : w.cell? b = some (.pointer (some e))) (ht : w.cell? t = some old) (hf : w.frozen? t = false) :
    (ReflectliteValue.set #[vlu 60 t 406, vlu 60 b 150]).run Tryd.prog w = .ok (.tuple #[]) (w.setCell t (.pointer (some e))) := by
  change Sem.run Tryd.prog (ReflectliteValue.parts (vlu 60 t 406) >>= _) w = _
  rw [Sem.run_bind, as_partsA]
  dsimp only [Result.andThen]
  change Sem.run Tryd.prog (ReflectliteValue.parts (vlu 60 b 150) >>= _) w = _
  rw [Sem.run_bind, as_partsF]
  dsimp only [Result.andThen]
  simp [ReflectliteValue.flagAddr, loadVar, isAgg, underlying, Tryd.underlying60, hb, Result.andThen, as_direct, storeVar, Value.cells, storeCells, Addr.add]
  rw [run_store Tryd.prog w t _ _ (by rfl)]
  simp [ht, hf]
/-- The library's variable of the type error. -/
def ErrType (w : World) : Prop := w.cell? ⟨0, 0, none⟩ = some (.iface 116 (.agg #[hnd 58]))
theorem ErrType.below {w w' : World} (h : ErrType w) (hb : Below w.heap.size w w') : ErrType w' := (hb.cell (p := ⟨0, 0, none⟩) (World.block_lt_of_cell? w ⟨0, 0, none⟩ h)).trans h
theorem ErrType.only {S : Nat → Prop} {w w' : World} (h : ErrType w) (hb : Only S w w') (hs : ¬ S 0) : ErrType w' :=
  (World.cell?_of_block (w := w) (hb.block 0 (World.block_lt_of_cell? w ⟨0, 0, none⟩ h) hs)).trans h
set_option maxRecDepth 100000 in
set_option maxHeartbeats 4000000 in
/-- errors.As(f, &v), f a Fault. -/
theorem as_fault (g tb : Nat) (old : Value) (w : World) (hg : ErrType w) (hb : Box w tb 60 #[old]) :
    Calls Tryd.prog 31 #[.iface 60 (.pointer (some ⟨g, 0, none⟩)), .iface 64 (.pointer (some ⟨tb, 0, none⟩))] w fun e w' =>
      e = .returned (.bool true) ∧ Box w' tb 60 #[.pointer (some ⟨g, 0, none⟩)] ∧ Only (just tb) w w' := by
  have h53 := @run_callFunc_extern Tryd.prog 53 _ asValueE Tryd.func53 (by kernel_rfl) (by kernel_rfl) (by kernel_rfl) (by kernel_rfl)
  have h54 := @run_callFunc_extern Tryd.prog 54 _ asTypeE Tryd.func54 (by kernel_rfl) (by kernel_rfl) (by kernel_rfl) (by kernel_rfl)
  have h55 := @run_callFunc_extern Tryd.prog 55 _ asNilE Tryd.func55 (by kernel_rfl) (by kernel_rfl) (by kernel_rfl) (by kernel_rfl)
  have h96 := @run_callFunc_extern Tryd.prog 96 _ asKindE Tryd.func96 (by kernel_rfl) (by kernel_rfl) (by kernel_rfl) (by kernel_rfl)
  have h108 := @run_callFunc_extern Tryd.prog 108 _ asElemE Tryd.func108 (by kernel_rfl) (by kernel_rfl) (by kernel_rfl) (by kernel_rfl)
  have h109 := @run_callFunc_extern Tryd.prog 109 _ asImplE Tryd.func109 (by kernel_rfl) (by kernel_rfl) (by kernel_rfl) (by kernel_rfl)
  have h51 := @run_callFunc_extern Tryd.prog 51 _ ReflectliteType.typeOf Tryd.func51 (by kernel_rfl) (by kernel_rfl) (by kernel_rfl) (by kernel_rfl)
  have h106 := @run_callFunc_extern Tryd.prog 106 _ asAssE Tryd.func106 (by kernel_rfl) (by kernel_rfl) (by kernel_rfl) (by kernel_rfl)
  have h72 := @run_callFunc_extern Tryd.prog 72 _ asVelemE Tryd.func72 (by kernel_rfl) (by kernel_rfl) (by kernel_rfl) (by kernel_rfl)
  have h73 := @run_callFunc_extern Tryd.prog 73 _ ReflectliteValue.set Tryd.func73 (by kernel_rfl) (by kernel_rfl) (by kernel_rfl) (by kernel_rfl)
  have f1 := as_valueT
  have f2 := as_valueF
  have f3 := as_typeT
  have f4 := as_mKind
  have f5 := as_mElem
  have f6 := as_mImpl
  have f7 := as_mAss
  have f8 := as_kindT
  have f9 := as_kindF
  have fa := as_elemT
  have fb := as_implF
  have fc := as_typeOfF
  have fd := as_assF
  simp only [vlu, hnd] at f1 f2 f3 f4 f5 f6 f7 f8 f9 fa fb fc fd
  simp only [ErrType, hnd] at hg
  have hlt : 0 < w.heap.size := World.block_lt_of_cell? w ⟨0, 0, none⟩ hg
  have hg2 : ((w.alloc (.cells #[.pointer (some ⟨tb, 0, none⟩)] 64)).alloc (.cells #[.pointer (some ⟨1, 64, none⟩), .pointer (some ⟨w.heap.size, 0, none⟩), .int .u64 150] 96)).cell? ⟨0, 0, none⟩ = some (.iface 116 (.agg #[.pointer (some ⟨1, 58, none⟩)])) := by
    rw [World.cell?_alloc_lt _ _ ⟨0, 0, none⟩ (by simp), World.cell?_alloc_lt _ _ ⟨0, 0, none⟩ hlt]; exact hg
  have n8 := as_nilT ⟨w.heap.size, 0, none⟩ ⟨tb, 0, none⟩ ((w.alloc (.cells #[.pointer (some ⟨tb, 0, none⟩)] 64)).alloc (.cells #[.pointer (some ⟨1, 64, none⟩), .pointer (some ⟨w.heap.size, 0, none⟩), .int .u64 150] 96)) (by simp)
  have el := as_velemT ⟨w.heap.size, 0, none⟩ ⟨tb, 0, none⟩ (((w.alloc (.cells #[.pointer (some ⟨tb, 0, none⟩)] 64)).alloc (.cells #[.pointer (some ⟨1, 64, none⟩), .pointer (some ⟨w.heap.size, 0, none⟩), .int .u64 150] 96)).alloc (.cells #[.pointer (some ⟨1, 64, none⟩), .pointer (some ⟨w.heap.size, 0, none⟩), .int .u64 150] 96)) (by rw [World.cell?_alloc_lt _ _ ⟨w.heap.size, 0, none⟩ (by simp; omega)]; simp)
  have b4 : Box ((((w.alloc (.cells #[.pointer (some ⟨tb, 0, none⟩)] 64)).alloc (.cells #[.pointer (some ⟨1, 64, none⟩), .pointer (some ⟨w.heap.size, 0, none⟩), .int .u64 150] 96)).alloc (.cells #[.pointer (some ⟨1, 64, none⟩), .pointer (some ⟨w.heap.size, 0, none⟩), .int .u64 150] 96)).alloc (.cells #[.pointer (some ⟨g, 0, none⟩)] 60)) tb 60 #[old] := (((hb.alloc _).alloc _).alloc _).alloc _
  have st := as_setF ⟨tb, 0, none⟩ ⟨w.heap.size + 1 + 1 + 1, 0, none⟩ ⟨g, 0, none⟩ old ((((w.alloc (.cells #[.pointer (some ⟨tb, 0, none⟩)] 64)).alloc (.cells #[.pointer (some ⟨1, 64, none⟩), .pointer (some ⟨w.heap.size, 0, none⟩), .int .u64 150] 96)).alloc (.cells #[.pointer (some ⟨1, 64, none⟩), .pointer (some ⟨w.heap.size, 0, none⟩), .int .u64 150] 96)).alloc (.cells #[.pointer (some ⟨g, 0, none⟩)] 60)) (by rw [World.cell?_alloc_at _ _ _ _ (by simp)]; rfl) (by rw [b4.cell]; rfl) (b4.frozen 0)
  have HZ := Lib.hid (b4.put 0 (.pointer (some ⟨g, 0, none⟩)))
  have HO := Lib.hid (((((((Only.refl (just tb) w).alloc (.cells #[.pointer (some ⟨tb, 0, none⟩)] 64)).alloc (.cells #[.pointer (some ⟨1, 64, none⟩), .pointer (some ⟨w.heap.size, 0, none⟩), .int .u64 150] 96)).alloc (.cells #[.pointer (some ⟨1, 64, none⟩), .pointer (some ⟨w.heap.size, 0, none⟩), .int .u64 150] 96)).alloc (.cells #[.pointer (some ⟨g, 0, none⟩)] 60))).setCell (p := ⟨tb, 0, none⟩) (.inl (just_self tb)) (.pointer (some ⟨g, 0, none⟩)))
  simp only [vlu, hnd] at n8 el st
  clear b4 hb hlt
  go_enter Tryd.func31, Tryd.ntmps31
  go_wp2
  refine wp_loop_rounds 1 ?_
  rw [rounds_succ]
  go_wp2
  go_ret
  exact ⟨rfl, HZ.out, HO.out⟩
end Go.Proofs.YteiilfdbddpodaaDoor
