/- StoreKeeps: what the law notes of each block, beside the store's; its two rows. -/
import Derived.Test.YtloibfdcahmhjaaGreatG49
import Derived.Lib.LazyBuf
import Derived.Test.YtloibfdcahmhjaaGreatZStoreKx
namespace Go.Proofs.YtloibfdcahmhjaaGreat
set_option maxRecDepth 100000
open Go.RowKit Go.ChangeShapes Go.WideShapes Go.ChangeAt Go.Maps Go.Deep

def upBo (s : Nat → Bool) (i : Nat) (b : Bool) (j : Nat) : Bool := if j = i then b else s j
def upDa (v : Nat → Nat → Int) (i : Nat) (d : Nat → Int) (j : Nat) : Nat → Int := if j = i then d else v j
/-- What is noted is so. -/
def KpS (s : Nat → Bool) (v : Nat → Nat → Int) (b : Int → Option (Nat → Int)) : Prop := ∀ j : Nat, s j = (b (j : Int)).isSome ∧ ∀ d, b (j : Int) = some d → v j = d
theorem KpS.new : KpS (fun _ => false) (fun _ _ => 0) (fun _ => none) := fun _ => ⟨rfl, fun _ h => by cases h⟩
theorem KpS.look {s : Nat → Bool} {v : Nat → Nat → Int} {b : Int → Option (Nat → Int)} (h : KpS s v b) (id : Nat) (d : Nat → Int) : KpS s v (setD b (id : Int) (nxD 0 d (b (id : Int)))) := fun j => by
  unfold setD nxD
  by_cases e : (j : Int) = (id : Int)
  · rw [if_pos e, if_neg (by decide), if_pos rfl, ← e]
    exact h j
  · rw [if_neg e]
    exact h j
theorem KpS.put {s : Nat → Bool} {v : Nat → Nat → Int} {b : Int → Option (Nat → Int)} (h : KpS s v b) (id : Nat) (d : Nat → Int) : KpS (upBo s id true) (upDa v id d) (setD b (id : Int) (nxD 1 d (b (id : Int)))) := fun j => by
  unfold setD nxD upBo upDa
  by_cases e : j = id
  · subst e
    rw [if_pos rfl, if_pos rfl, if_pos rfl, if_neg (by decide), if_neg (by decide)]
    exact ⟨rfl, fun d' h' => by injection h'⟩
  · simp only [if_neg e, if_neg (show ¬ (j : Int) = (id : Int) by omega)]
    exact h j
theorem KpS.drop {s : Nat → Bool} {v : Nat → Nat → Int} {b : Int → Option (Nat → Int)} (h : KpS s v b) (id : Nat) (d : Nat → Int) : KpS (upBo s id false) v (setD b (id : Int) (nxD 3 d (b (id : Int)))) := fun j => by
  unfold setD nxD upBo
  by_cases e : j = id
  · subst e
    rw [if_pos rfl, if_pos rfl, if_pos rfl]
    exact ⟨rfl, fun d' h' => by cases h'⟩
  · simp only [if_neg e, if_neg (show ¬ (j : Int) = (id : Int) by omega)]
    exact h j
/-- The row of data, cell by cell. -/
def vfS (v : Nat → Nat → Int) (c : Nat) : Value := .int .u64 (v (c / 8) (c % 8))
theorem vfS_range {u : World} {b B : Nat} {t : TypeId} {v : Nat → Nat → Int} (h : u.rowIs b t (B * 8) (vfS v)) {j : Nat} (hj : j < B) : u.rangeAt b (j * 8) (DA (v j)).toList := by
  intro i x hx
  have hi : i < 8 := (List.getElem?_eq_some_iff.1 hx).1
  rw [Array.getElem?_toList, DA_at (v j) i hi] at hx
  injection hx with hx
  rw [h.cell (show j * 8 + i < B * 8 by omega), ← hx]
  unfold vfS
  rw [show (j * 8 + i) / 8 = j by omega, show (j * 8 + i) % 8 = i by omega]
theorem vfS_there {u : World} {b B : Nat} {t : TypeId} {v : Nat → Nat → Int} (h : u.rowIs b t (B * 8) (vfS v)) {j : Nat} (hj : j < B) : u.there b (j * 8) 8 := fun i hi => by
  refine ⟨?_, h.frozen _⟩
  rw [h.cell (show j * 8 + i < B * 8 by omega)]
  rfl
/-- The law's own: its config, its steps, its two rows. -/
def FS (c : SC) (cb ib vb B : Nat) (W : World) (a : Option Addr) (nl : Nat) (y : Nat → Sp3) (s : Nat → Bool) (v : Nat → Nat → Int) (u : World) : Prop :=
  ((Box u cb 79 (sfA c) ∧ Sps3 u W.heap.size a nl y) ∧ u.rowIs ib 4 B (fun j => .bool (s j))) ∧ u.rowIs vb 48 (B * 8) (vfS v)
structure KsZ (W : World) (Z : Nat → Prop) (cb ib vb : Nat) : Prop where
  zc : Z cb
  zi : Z ib
  zv : Z vb
  old : ∀ i, i < W.heap.size → Z i
  oi : W.heap.size ≤ ib
  ov : W.heap.size ≤ vb
  ci : cb ≠ ib
  cv : cb ≠ vb
  iv : ib ≠ vb
section
variable {c : SC} {cb ib vb B : Nat} {W : World} {Z : Nat → Prop} {a : Option Addr} {nl : Nat} {y : Nat → Sp3} {s : Nat → Bool} {v : Nat → Nat → Int} {u u' : World}
theorem FS.keep (h : KsZ W Z cb ib vb) (hs : W.heap.size ≤ u.heap.size) (hk : Kept Z u u') (f : FS c cb ib vb B W a nl y s v u) : FS c cb ib vb B W a nl y s v u' := by
  have hb : Below W.heap.size u u' := hk.below hs h.old
  exact ⟨⟨⟨hk.box f.1.1.1 h.zc, f.1.1.2.below hb⟩, hk.row f.1.2 h.zi⟩, hk.row f.2 h.zv⟩
theorem FS.setS (h : KsZ W Z cb ib vb) (f : FS c cb ib vb B W a nl y s v u) (i : Nat) (x : Bool) : FS c cb ib vb B W a nl y (upBo s i x) v (u.setCell ⟨ib, i, none⟩ (.bool x)) := by
  have hb : Below W.heap.size u (u.setCell ⟨ib, i, none⟩ (.bool x)) := (Below.refl _ u).setCell h.oi _
  refine ⟨⟨⟨f.1.1.1.far (a := ⟨ib, i, none⟩) h.ci _, f.1.1.2.below hb⟩, (f.1.2.set i _).congr fun j _ => ?_⟩, f.2.setOther (a := ⟨ib, i, none⟩) h.iv.symm _⟩
  unfold upBo
  split <;> rfl
theorem FS.setVs (h : KsZ W Z cb ib vb) (f : FS c cb ib vb B W a nl y s v u) (i : Nat) (d : Nat → Int) : FS c cb ib vb B W a nl y s (upDa v i d) (u.setCells vb (i * 8) (DA d).toList) := by
  have hb : Below W.heap.size u (u.setCells vb (i * 8) (DA d).toList) := below_setCells h.ov _ _ _ (Below.refl _ u)
  have ho : Only (just vb) u (u.setCells vb (i * 8) (DA d).toList) := only_setCells _ _ _ (Only.refl _ _) (.inl (just_self _))
  refine ⟨⟨⟨f.1.1.1.only ho (fun e => h.cv e), f.1.1.2.below hb⟩, ho.row f.1.2 (fun e => h.iv e)⟩, (rowIs_setCells _ _ _ _ f.2).congr fun j _ => ?_⟩
  have hl : (DA d).toList.length = 8 := rfl
  unfold vfS upDa
  by_cases e : i * 8 ≤ j ∧ j < i * 8 + (DA d).toList.length
  · rw [if_pos e, if_pos (by omega), Array.getElem?_toList, DA_at d _ (by omega), show j - i * 8 = j % 8 by omega]
    rfl
  · rw [if_neg e, if_neg (by omega)]
theorem FS.rng {b o : Nat} (f : FS c cb ib vb B W (some ⟨b, o, none⟩) nl y s v u) {i : Nat} (hi : i < nl) : u.rangeAt b (o + i * 3) (s3c (y i)).toList := by
  obtain ⟨b', o', e, _, hr⟩ := f.1.1.2.at hi
  injection e with e
  injection e with e1 e2
  rw [e1, e2]
  exact hr
end
theorem data_rowS : (Tryz.prog.info? 48).map (fun i => (i.zero, i.size, i.bytes)) = some (some (.agg (DA fun _ => 0)), 8, 64) := by kernel_rfl
theorem make_dataS (B : Nat) (hB : B ≤ 1000) (w : World) : (Instr.makeSlice 115 (.int .i64 (B : Int)) (.int .i64 (B : Int))).run Tryz.prog w = .ok (.slice (some ⟨w.heap.size, 0, none⟩) B B) (w.alloc (.cells (madeCells (DA fun _ => 0) (B * 8)) 48)) := by
  obtain ⟨i, hi, hzz⟩ := Option.map_eq_some_iff.1 data_rowS
  simp only [Prod.mk.injEq] at hzz
  obtain ⟨hz, h8, hb⟩ := hzz
  have := run_make (P := Tryz.prog) w 115 48 i _ Tryz.underlying115 hi hz .i64 .i64 B B (by omega) (Int.le_refl _) (by rw [hb]; omega) (by omega)
  rw [h8] at this
  simpa [Value.cells] using this
theorem made_dataS (w : World) (B : Nat) : (w.alloc (.cells (madeCells (DA fun _ => 0) (B * 8)) 48)).rowIs w.heap.size 48 (B * 8) (vfS fun _ _ => 0) := by
  refine ⟨_, Go.Deep.blk_alloc_new _ _, size_madeCells _ _, fun i hi => ?_⟩
  have h8 : i % 8 < 8 := Nat.mod_lt _ (by decide)
  have hq := DA_at (fun _ => 0) (i % 8) h8
  have : (DA fun _ => 0)[i % 8]! = .int .u64 0 := by
    rw [getElem!_def, hq]
  have hs : (DA fun _ => 0).size = 8 := rfl
  simp [madeCells, hi, hs, this, vfS]
theorem infoBoolS : (Tryz.prog.info? 4).map (fun i => (i.zero, i.size, i.bytes)) = some (some (.bool false), 1, 1) := by kernel_rfl
end Go.Proofs.YtloibfdcahmhjaaGreat
