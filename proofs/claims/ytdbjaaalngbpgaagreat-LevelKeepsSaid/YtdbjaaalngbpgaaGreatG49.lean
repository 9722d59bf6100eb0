/- Texts of ours put together: LevelKp. -/
import Derived.Lib.LazyBuf
import Derived.Test.YtdbjaaalngbpgaaGreatG48
/- LevelKeeps: what the law notes of each block, beside the level's blocks; its three rows. -/
namespace Go.Proofs.YtdbjaaalngbpgaaGreat
set_option maxRecDepth 100000
open Go.RowKit Go.ChangeShapes Go.WideShapes Go.ChangeAt Go.Maps Go.Deep

def updB (s : Nat → Bool) (i : Nat) (b : Bool) (j : Nat) : Bool := if j = i then b else s j
def updV (v : Nat → Nat → Int) (i : Nat) (d : Nat → Int) (j : Nat) : Nat → Int := if j = i then d else v j
/-- What is noted of the first eight ids is so. -/
def KpOk (g : Nat → Nat) (s : Nat → Bool) (v : Nat → Nat → Int) (m : Bm) : Prop := ∀ j : Nat, j < 8 → s j = (m (j : Int)).isSome ∧ ∀ l d, m (j : Int) = some (l, d) → l = g j ∧ DA (v j) = DA d
theorem KpOk.new : KpOk (fun _ => 0) (fun _ => false) (fun _ _ => 0) (fun _ => none) := fun _ _ => ⟨rfl, fun _ _ h => by cases h⟩
theorem DA_inj {f g : Nat → Int} (h : DA f = DA g) : ∀ i, i < 8 → f i = g i := by
  intro i hi
  have h1 := DA_at f i hi
  rw [h, DA_at g i hi] at h1
  injection h1 with h1
  injection h1 with _ h1
  exact h1.symm
theorem DA_upd {f g : Nat → Int} (at' : Int) (e : Nat → Int) (h : DA f = DA g) : DA (updD f at' e) = DA (updD g at' e) := by
  refine DA_congr fun i hi => ?_
  unfold updD
  rw [DA_inj h i hi]
/-- What becomes of a block's data. -/
def kpV (op : Int) (at' : Int) (d : Nat → Int) (b : Bool) (f : Nat → Int) : Nat → Int := if op = 1 then d else if op = 2 then updD (if b then f else fun _ => 0) at' d else f
def kpB (op : Int) (b : Bool) : Bool := op == 1 || op == 2 || op == 0 && b
theorem KpOk.next {g : Nat → Nat} {s : Nat → Bool} {v : Nat → Nat → Int} {m : Bm} (h : KpOk g s v m) (op at' id to : Nat) (d : Nat → Int) (lf : Int) (hop : op < 4) (hid : id < 8) :
    KpOk (updN g id to) (updB s id (kpB (op : Int) (s id))) (updV v id (kpV (op : Int) (at' : Int) d (s id) (v id))) (nextB m ⟨(op : Int), (id : Int), (at' : Int), d, lf, (to : Int)⟩) := by
  intro j hj
  by_cases e : j = id
  · subst e
    obtain ⟨h1, h2⟩ := h j hj
    have hx : nextB m ⟨(op : Int), (j : Int), (at' : Int), d, lf, (to : Int)⟩ (j : Int) = newM (op : Int) (at' : Int) to d (m (j : Int)) := by unfold nextB setB; rw [if_pos rfl]; rfl
    rw [hx]
    unfold updN updB updV
    simp only [if_true]
    have : op = 0 ∨ op = 1 ∨ op = 2 ∨ op = 3 := by omega
    rcases this with rfl | rfl | rfl | rfl
    · refine ⟨?_, fun l e he => ?_⟩
      · show kpB 0 (s j) = ((m (j : Int)).map _).isSome
        rw [Option.isSome_map, ← h1]
        cases s j <;> rfl
      · have he : (m (j : Int)).map (fun x => (to, x.2)) = some (l, e) := he
        cases hm : m (j : Int) with
        | none => rw [hm] at he; cases he
        | some b =>
          rw [hm] at he
          injection he with he
          injection he with e1 e2
          exact ⟨e1.symm, by rw [← e2]; exact (h2 b.1 b.2 hm).2⟩
    · refine ⟨rfl, fun l e he => ?_⟩
      have he : some (to, d) = some (l, e) := he
      injection he with he
      injection he with e1 e2
      exact ⟨e1.symm, by rw [← e2]; rfl⟩
    · refine ⟨rfl, fun l e he => ?_⟩
      have he : some (to, updD (dat (m (j : Int))) (at' : Int) d) = some (l, e) := he
      injection he with he
      injection he with e1 e2
      refine ⟨e1.symm, ?_⟩
      rw [← e2]
      show DA (updD (if s j = true then v j else fun _ => 0) (at' : Int) d) = _
      refine DA_upd _ _ ?_
      cases hm : m (j : Int) with
      | none => rw [hm] at h1; rw [h1]; rfl
      | some b => rw [hm] at h1; rw [h1]; exact (h2 b.1 b.2 hm).2
    · exact ⟨rfl, fun l e he => by cases he⟩
  · have hne : (j : Int) ≠ (id : Int) := by omega
    rw [nx_ne hne]
    unfold updN updB updV
    rw [if_neg e, if_neg e, if_neg e]
    exact h j hj
/-- The row of data, cell by cell. -/
def vf (v : Nat → Nat → Int) (c : Nat) : Value := .int .u64 (v (c / 8) (c % 8))
theorem vf_range {u : World} {b : Nat} {t : TypeId} {v : Nat → Nat → Int} (h : u.rowIs b t 64 (vf v)) {j : Nat} (hj : j < 8) : u.rangeAt b (j * 8) (DA (v j)).toList := by
  intro i x hx
  have hi : i < 8 := (List.getElem?_eq_some_iff.1 hx).1
  rw [Array.getElem?_toList, DA_at (v j) i hi] at hx
  injection hx with hx
  rw [h.cell (show j * 8 + i < 64 by omega), ← hx]
  unfold vf
  rw [show (j * 8 + i) / 8 = j by omega, show (j * 8 + i) % 8 = i by omega]
theorem vf_there {u : World} {b : Nat} {t : TypeId} {v : Nat → Nat → Int} (h : u.rowIs b t 64 (vf v)) {j : Nat} (hj : j < 8) : u.there b (j * 8) 8 := fun i hi => by
  refine ⟨?_, h.frozen _⟩
  rw [h.cell (show j * 8 + i < 64 by omega)]
  rfl
/-- The law's own: its config, its arguments, its three rows. -/
def FK (N S T cb gb ib vb : Nat) (W : World) (a : Option Addr) (nl : Nat) (y : Nat → Stp) (a2 : Option Addr) (n2 : Nat) (z2 : Nat → Int) (g : Nat → Nat) (s : Nat → Bool) (v : Nat → Nat → Int) (u : World) : Prop :=
  (((((Box u cb 25 (cfA N S T) ∧ Stps u W.heap.size a nl y) ∧ Nums .u64 u W.heap.size a2 n2 z2) ∧ u.rowIs gb 3 8 (fun j => .int .i64 ((g j : Nat) : Int))) ∧ u.rowIs ib 4 8 (fun j => .bool (s j))) ∧ u.rowIs vb 48 64 (vf v))
structure KpZ (W : World) (Z : Nat → Prop) (cb gb ib vb : Nat) : Prop where
  zc : Z cb
  zg : Z gb
  zi : Z ib
  zv : Z vb
  old : ∀ i, i < W.heap.size → Z i
  og : W.heap.size ≤ gb
  oi : W.heap.size ≤ ib
  ov : W.heap.size ≤ vb
  cg : cb ≠ gb
  ci : cb ≠ ib
  cv : cb ≠ vb
  gi : gb ≠ ib
  gv : gb ≠ vb
  iv : ib ≠ vb
section
variable {N S T cb gb ib vb : Nat} {W : World} {Z : Nat → Prop} {a : Option Addr} {nl : Nat} {y : Nat → Stp} {a2 : Option Addr} {n2 : Nat} {z2 : Nat → Int} {g : Nat → Nat} {s : Nat → Bool} {v : Nat → Nat → Int} {u u' : World}
theorem FK.keep (h : KpZ W Z cb gb ib vb) (hs : W.heap.size ≤ u.heap.size) (hk : Kept Z u u') (f : FK N S T cb gb ib vb W a nl y a2 n2 z2 g s v u) : FK N S T cb gb ib vb W a nl y a2 n2 z2 g s v u' := by
  have hb : Below W.heap.size u u' := hk.below hs h.old
  exact ⟨⟨⟨⟨⟨hk.box f.1.1.1.1.1 h.zc, f.1.1.1.1.2.below hb⟩, f.1.1.1.2.below hb⟩, hk.row f.1.1.2 h.zg⟩, hk.row f.1.2 h.zi⟩, hk.row f.2 h.zv⟩
theorem FK.setG (h : KpZ W Z cb gb ib vb) (f : FK N S T cb gb ib vb W a nl y a2 n2 z2 g s v u) (i x : Nat) : FK N S T cb gb ib vb W a nl y a2 n2 z2 (updN g i x) s v (u.setCell ⟨gb, i, none⟩ (.int .i64 (x : Int))) := by
  have hb : Below W.heap.size u (u.setCell ⟨gb, i, none⟩ (.int .i64 (x : Int))) := (Below.refl _ u).setCell h.og _
  refine ⟨⟨⟨⟨⟨f.1.1.1.1.1.far (a := ⟨gb, i, none⟩) h.cg _, f.1.1.1.1.2.below hb⟩, f.1.1.1.2.below hb⟩, (f.1.1.2.set i _).congr fun j _ => ?_⟩, f.1.2.setOther (a := ⟨gb, i, none⟩) h.gi.symm _⟩, f.2.setOther (a := ⟨gb, i, none⟩) h.gv.symm _⟩
  unfold updN
  split <;> rfl
theorem FK.setS (h : KpZ W Z cb gb ib vb) (f : FK N S T cb gb ib vb W a nl y a2 n2 z2 g s v u) (i : Nat) (x : Bool) : FK N S T cb gb ib vb W a nl y a2 n2 z2 g (updB s i x) v (u.setCell ⟨ib, i, none⟩ (.bool x)) := by
  have hb : Below W.heap.size u (u.setCell ⟨ib, i, none⟩ (.bool x)) := (Below.refl _ u).setCell h.oi _
  refine ⟨⟨⟨⟨⟨f.1.1.1.1.1.far (a := ⟨ib, i, none⟩) h.ci _, f.1.1.1.1.2.below hb⟩, f.1.1.1.2.below hb⟩, f.1.1.2.setOther (a := ⟨ib, i, none⟩) h.gi _⟩, (f.1.2.set i _).congr fun j _ => ?_⟩, f.2.setOther (a := ⟨ib, i, none⟩) h.iv.symm _⟩
  unfold updB
  split <;> rfl
theorem FK.setV (h : KpZ W Z cb gb ib vb) (f : FK N S T cb gb ib vb W a nl y a2 n2 z2 g s v u) (i k : Nat) (hk : k < 8) (x : Int) : FK N S T cb gb ib vb W a nl y a2 n2 z2 g s (updV v i (fun j => if j = k then x else v i j)) (u.setCell ⟨vb, i * 8 + k, none⟩ (.int .u64 x)) := by
  have hb : Below W.heap.size u (u.setCell ⟨vb, i * 8 + k, none⟩ (.int .u64 x)) := (Below.refl _ u).setCell h.ov _
  refine ⟨⟨⟨⟨⟨f.1.1.1.1.1.far (a := ⟨vb, i * 8 + k, none⟩) h.cv _, f.1.1.1.1.2.below hb⟩, f.1.1.1.2.below hb⟩, f.1.1.2.setOther (a := ⟨vb, i * 8 + k, none⟩) h.gv _⟩, f.1.2.setOther (a := ⟨vb, i * 8 + k, none⟩) h.iv _⟩, (f.2.set (i * 8 + k) _).congr fun j _ => ?_⟩
  unfold vf updV
  by_cases e : j = i * 8 + k
  · rw [if_pos e, if_pos (by omega), if_pos (by omega)]
  · rw [if_neg e]
    by_cases e2 : j / 8 = i
    · rw [if_pos e2, if_neg (by omega), e2]
    · rw [if_neg e2]
theorem FK.setVs (h : KpZ W Z cb gb ib vb) (f : FK N S T cb gb ib vb W a nl y a2 n2 z2 g s v u) (i : Nat) (d : Nat → Int) : FK N S T cb gb ib vb W a nl y a2 n2 z2 g s (updV v i d) (u.setCells vb (i * 8) (DA d).toList) := by
  have hb : Below W.heap.size u (u.setCells vb (i * 8) (DA d).toList) := below_setCells h.ov _ _ _ (Below.refl _ u)
  have ho : Only (just vb) u (u.setCells vb (i * 8) (DA d).toList) := only_setCells _ _ _ (Only.refl _ _) (.inl (just_self _))
  refine ⟨⟨⟨⟨⟨f.1.1.1.1.1.only ho (fun e => h.cv e), f.1.1.1.1.2.below hb⟩, f.1.1.1.2.below hb⟩, ho.row f.1.1.2 (fun e => h.gv e)⟩, ho.row f.1.2 (fun e => h.iv e)⟩, (rowIs_setCells _ _ _ _ f.2).congr fun j _ => ?_⟩
  have hl : (DA d).toList.length = 8 := rfl
  unfold vf updV
  by_cases e : i * 8 ≤ j ∧ j < i * 8 + (DA d).toList.length
  · rw [if_pos e, if_pos (by omega), Array.getElem?_toList, DA_at d _ (by omega), show j - i * 8 = j % 8 by omega]
    rfl
  · rw [if_neg e, if_neg (by omega)]
end
theorem updV_self (v : Nat → Nat → Int) (i : Nat) : updV v i (v i) = v := by
  funext j
  unfold updV
  split
  · rename_i e; rw [e]
  · rfl
theorem updV_two (v : Nat → Nat → Int) (i : Nat) (d e : Nat → Int) : updV (updV v i d) i e = updV v i e := by
  funext j
  unfold updV
  split <;> rfl
theorem updV_at (v : Nat → Nat → Int) (i : Nat) (d : Nat → Int) : updV v i d i = d := by unfold updV; rw [if_pos rfl]
theorem updV_part (v : Nat → Nat → Int) (i k : Nat) (e : Nat → Int) :
    updV (updV v i (fun j => if j = k then e 0 else v i j)) i (fun j => if j = k + 1 then e 1 else updV v i (fun j => if j = k then e 0 else v i j) i j) = updV v i (updD (v i) (k : Int) e) := by
  rw [updV_two, updV_at]
  congr 1
  funext j
  unfold updD
  by_cases h1 : j = k
  · rw [if_neg (by omega), if_pos h1, if_pos (by omega)]
  · rw [if_neg h1, if_neg (show ¬ (j : Int) = (k : Int) by omega)]
    by_cases h2 : j = k + 1
    · rw [if_pos h2, if_pos (by omega)]
    · rw [if_neg h2, if_neg (by omega)]
theorem data_row : (Tryz.prog.info? 48).map (fun i => (i.zero, i.size, i.bytes)) = some (some (.agg (DA fun _ => 0)), 8, 64) := by kernel_rfl
theorem make_data (w : World) : (Instr.makeSlice 78 (.int .i64 8) (.int .i64 8)).run Tryz.prog w = .ok (.slice (some ⟨w.heap.size, 0, none⟩) 8 8) (w.alloc (.cells (madeCells (DA fun _ => 0) 64) 48)) := by
  obtain ⟨i, hi, hzz⟩ := Option.map_eq_some_iff.1 data_row
  simp only [Prod.mk.injEq] at hzz
  obtain ⟨hz, h8, hb⟩ := hzz
  have := run_make (P := Tryz.prog) w 78 48 i _ Tryz.underlying78 hi hz .i64 .i64 (8 : Nat) (8 : Nat) (by omega) (Int.le_refl _) (by rw [hb]; omega) (by omega)
  rw [h8] at this
  simpa [Value.cells] using this
theorem made_data (w : World) : (w.alloc (.cells (madeCells (DA fun _ => 0) 64) 48)).rowIs w.heap.size 48 64 (vf fun _ _ => 0) := by
  refine ⟨_, Go.Deep.blk_alloc_new _ _, size_madeCells _ _, fun i hi => ?_⟩
  have h8 : i % 8 < 8 := Nat.mod_lt _ (by decide)
  have hq := DA_at (fun _ => 0) (i % 8) h8
  have : (DA fun _ => 0)[i % 8]! = .int .u64 0 := by
    rw [getElem!_def, hq]
  have hs : (DA fun _ => 0).size = 8 := rfl
  simp [madeCells, hi, hs, this, vf]
end Go.Proofs.YtdbjaaalngbpgaaGreat
