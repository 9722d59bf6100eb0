/- Texts of ours put together: RefNew, RefNo. -/
import Derived.Below
import Derived.BigQuiet
import Derived.BigRegion
import Derived.ChangeSlices
import Derived.Deep.Cut
import Derived.Deep.Draws
import Derived.Deep.MidRow
import Derived.Deep.OwnRows
import Derived.Deep.QuietTactic
import Derived.Deep.RegionHeld
import Derived.Deep.RegionLaw
import Derived.Laws.AppendOwn
import Derived.Lib.Hide
import Derived.OpenShut
import Derived.OwnWalk
import Derived.ProofKit
import Derived.RegionTactic
import Derived.RowKit3
import Derived.SizedLaws
import Derived.StillTailTactics
import Derived.WalkKit
import Derived.Test.YtmageeohnfomnaaGreatProg
import Derived.Test.YtmageeohnfomnaaGreatG2
import Derived.Test.YtmageeohnfomnaaGreatG0
import Derived.Test.YtmageeohnfomnaaGreatG10
import Derived.Test.YtmageeohnfomnaaGreatG21
import Derived.Test.YtmageeohnfomnaaGreatG11
namespace Go.Proofs.YtmageeohnfomnaaGreat
set_option maxRecDepth 100000
open Go.RowKit Go.ChangeShapes Go.WideShapes Go.ChangeAt

def rowsOf (bl sz : Nat → Nat) (k : Nat) : List Value := (List.range k).map fun i => .slice (some ⟨bl i, 0, none⟩) (sz i) (sz i)
theorem rowsOf_at (bl sz : Nat → Nat) (k i : Nat) (h : i < k) : (rowsOf bl sz k)[i]? = some (.slice (some ⟨bl i, 0, none⟩) (sz i) (sz i)) := by simp [rowsOf, h]
theorem rowsOf_succ (bl sz : Nat → Nat) (k b : Nat) : rowsOf bl sz k ++ [.slice (some ⟨b, 0, none⟩) (sz k) (sz k)] = rowsOf (fun i => if i = k then b else bl i) sz (k + 1) := by
  unfold rowsOf
  rw [List.range_succ, List.map_append]
  congr 1
  · refine List.map_congr_left (fun i hi => ?_)
    have : ¬ i = k := by have : i < k := by simpa using hi
                         omega
    simp [this]
  · simp

structure RMaking (w : World) (sz : Nat → Nat) (k : Nat) (bl : Nat → Nat) (A : Option Addr) (gc : Nat) (wr : World) : Prop where
  box : Box wr w.heap.size 82 #[.slice A k gc, .slice none 0 0, .bool false]
  row : wr.ownsRow w.heap.size 75 1 (.slice A k gc) k (rowsOf bl sz k)
  reg : ∀ i, i < k → wr.rowIs (bl i) 103 (sz i * 12) (fun _ => .int .u64 0)
  inj : ∀ i j, i < k → j < k → bl i = bl j → i = j
  lo : ∀ i, i < k → w.heap.size ≤ bl i
  only : Only nobody w wr
theorem RMaking.start (w : World) (sz bl : Nat → Nat) : RMaking w sz 0 bl none 0 (w.alloc (.cells #[.slice none 0 0, .slice none 0 0, .bool false] 82)) :=
  ⟨Box.new _ _ _, World.ownsRow_nil _ _ _ _, fun i hi => absurd hi (by omega), fun i j hi => absurd hi (by omega), fun i hi => absurd hi (by omega), (Only.refl _ w).alloc _⟩

theorem own_only {w w' : World} {base : Nat} {e : TypeId} {size n : Nat} {v : Value} {xs : List Value} (h : w.ownsRow base e size v n xs) (o : Only nobody w w') : w'.ownsRow base e size v n xs :=
  own_block h (fun b hb => o.block b (h.lt b hb).2 (not_nobody _))
theorem own_box {w : World} {base : Nat} {e : TypeId} {size n cap : Nat} {A : Option Addr} {xs : List Value} (h : w.ownsRow base e size (.slice A n cap) n xs) {b : Nat} (hb : (Value.slice A n cap).ownBlock = some b) : ∃ cur, Box w b e cur := by
  rcases h.2 with ⟨h0, _⟩ | ⟨g, cap', cur, h0, _, hg, _⟩
  · rw [h0] at hb; simp [Value.ownBlock] at hb
  · rw [h0] at hb
    simp only [Value.ownBlock, Option.some.injEq] at hb
    subst hb
    exact ⟨cur, hg⟩
theorem new_one (V : World) (o : Obj) (v : Value) (t : TypeId) : ∀ j u, [v][j]? = some u → ((V.alloc o).alloc (.cells #[v] t)).drew.cell? ((⟨V.heap.size + 1, 0, none⟩ : Addr).add j) = some u := by
  intro j u hu
  have hj : j = 0 := by have := (List.getElem?_eq_some_iff.1 hu).1; simp at this; omega
  subst hj
  rw [add_plain]
  simp at hu
  rw [← hu]
  simp
theorem RMaking.next {w wr w0 w1 : World} {sz bl : Nat → Nat} {k gc gc' s : Nat} {A A' : Option Addr} (h : RMaking w sz k bl A gc wr) (hs : sz k = s) (ho : Only nobody (wr.alloc (.cells (madeCells (CA fun _ => 0) (s * 12)) 103)) w0)
    (hown : w1.ownsRow w.heap.size 75 1 (.slice A' (k + 1) gc') (k + 1) (rowsOf bl sz k ++ [.slice (some ⟨wr.heap.size, 0, none⟩) s s])) (hg : w0.grownBy w1 (Value.slice A k gc).ownBlock) :
    Box w1 w.heap.size 82 #[.slice A k gc, .slice none 0 0, .bool false] ∧ RMaking w sz (k + 1) (fun i => if i = k then wr.heap.size else bl i) A' gc' (w1.setCell ⟨w.heap.size, 0, none⟩ (.slice A' (k + 1) gc')) := by
  subst hs
  have o0 : Only (fun b => (Value.slice A k gc).ownBlock = some b) wr w1 := ((((Only.refl _ wr).alloc _).then ho (fun i hi => absurd hi (not_nobody _)))).grown hg (fun k hk => .inl hk)
  have nb : ∀ {b t cs}, Box wr b t cs → t ≠ 75 → ¬ (Value.slice A k gc).ownBlock = some b := fun hb ht e => by
    obtain ⟨cur, hc⟩ := own_box h.row e
    exact (Box.ne hb hc ht) rfl
  have bp : Box w1 w.heap.size 82 #[.slice A k gc, .slice none 0 0, .bool false] := h.box.only o0 (nb h.box (by decide))
  have hpw : w.heap.size < wr.heap.size := h.box.lt
  refine ⟨bp, ?_⟩
  have o2 : Only (just w.heap.size) w1 (w1.setCell ⟨w.heap.size, 0, none⟩ (.slice A' (k + 1) gc')) := (Only.refl _ _).setCell (p := ⟨w.heap.size, 0, none⟩) (.inl (just_self w.heap.size)) _
  have made := (made_cells wr (sz k))
  have made0 : w0.rowIs wr.heap.size 103 (sz k * 12) (fun _ => .int .u64 0) := ho.row made (not_nobody _)
  have made1 : w1.rowIs wr.heap.size 103 (sz k * 12) (fun _ => .int .u64 0) := made0.of_block (hg.block _ made0.lt (fun e => by
    have := (h.row.lt _ e.symm).2
    omega))
  refine ⟨?_, ?_, fun i hi => ?_, fun i j hi hj e => ?_, fun i hi => ?_, ?_⟩
  · have := bp.put 0 (.slice A' (k + 1) gc')
    simpa using this
  · rw [← rowsOf_succ]
    refine own_block hown (fun b hb => o2.block b (hown.lt b hb).2 (just_ne ?_))
    obtain ⟨cur, hc⟩ := own_box hown hb
    exact Box.ne hc bp (by decide)
  · by_cases e : i = k
    · subst e
      simp only [if_true]
      exact o2.row made1 (just_ne (by omega))
    · have hi' : i < k := by omega
      simp only [if_neg e]
      have hr := h.reg i hi'
      obtain ⟨c, hc, _, _⟩ := id hr
      refine o2.row (o0.row hr (nb (show Box wr (bl i) _ c from hc) (by decide))) (just_ne ?_)
      exact (h.box.row_ne hr (by decide)).symm
  · have key : ∀ i, i < k → bl i < wr.heap.size := fun i hi => (h.reg i hi).lt
    by_cases e1 : i = k
    · by_cases e2 : j = k
      · omega
      · simp only [if_pos e1, if_neg e2] at e
        have := key j (by omega); omega
    · by_cases e2 : j = k
      · simp only [if_neg e1, if_pos e2] at e
        have := key i (by omega); omega
      · simp only [if_neg e1, if_neg e2] at e
        exact h.inj i j (by omega) (by omega) e
  · by_cases e : i = k
    · simp only [if_pos e]; omega
    · simp only [if_neg e]; exact h.lo i (by omega)
  · refine Only.setCell (Only.then h.only o0 (fun i hi => .inr (h.row.lt i hi).1)) (.inr (Nat.le_refl _)) _
theorem RMaking.done {w wr : World} {n : Nat} {sz bl : Nat → Nat} {A : Option Addr} {gc : Nat} (h : RMaking w sz n bl A gc wr) (h1 : 1 ≤ n) (hn : n ≤ 16) (hs : ∀ i, i < n → sz i ≤ 4096) : Rm wr w.heap.size (fun i => w.heap.size ≤ i ∧ i < wr.heap.size) (MS.new n sz) := by
  rcases h.row.2 with ⟨_, h0⟩ | ⟨g, cap', cur, e, hb, hg, _, _, hc, htk⟩
  · omega
  injection e with e1 e2 e3
  subst e1 e3
  refine ⟨g, gc, bl, none, 0, h.box, ⟨cur, hg, fun i hi => ?_⟩, h.reg, h.inj, World.ownsRow_nil _ _ _ _, ⟨Nat.le_refl _, h.box.lt⟩, ⟨hb, Box.lt (show Box wr g _ cur from hg)⟩, fun i (hi : i < n) => ⟨h.lo i hi, (h.reg i hi).lt⟩, fun b hb => by simp [Value.ownBlock] at hb, fun i hi => hi.2, hn, hs⟩
  have hi' : i < n := hi
  have := rowsOf_at bl sz n i hi'
  rw [← htk, List.getElem?_take, if_pos (by omega), Array.getElem?_toList] at this
  exact this
def RNewPost (w : World) (n : Nat) (sz : Nat → Nat) (e : Ending) (w' : World) : Prop :=
  ∃ p F, e = .returned (.tuple #[.pointer (some ⟨p, 0, none⟩), .int .i64 0]) ∧ Rm w' p F (MS.new n sz) ∧ Only nobody w w' ∧ ∀ i, F i → w.heap.size ≤ i
def RMakingAt (w : World) (sz : Nat → Nat) (k : Nat) (wr : World) : Prop := ∃ bl A gc, RMaking w sz k bl A gc wr

set_option maxRecDepth 100000 in
set_option maxHeartbeats 2000000 in
theorem rnew_yes (a : Option Addr) (n cap B : Nat) (z : Nat → Int) (sz : Nat → Nat) (w : World) (hz : Nums .i64 w B a n z) (hB : B ≤ w.heap.size) (hf : Fits n z) (hsz : ∀ i, i < n → z i = sz i) :
    Calls Tryz.prog 13 #[.slice a n cap] w (RNewPost w n sz) := by
  have HZ := Lib.hid hz
  have HF := Lib.hid hf
  have HS := Lib.hid hsz
  have hn1 := hf.1
  have hn := hf.2.1
  clear hz hf hsz
  go_enter Tryz.func13, Tryz.ntmps13
  go_wp2
  go_loopw [5] (fun i wr => ∃ k : Nat, i = .int .i64 k ∧ k ≤ n ∧ RMakingAt w sz k wr) (fun i _ => n - (intOf i).toNat)
  case atStart => exact ⟨0, rfl, Nat.zero_le _, fun _ => 0, none, 0, RMaking.start w sz _⟩
  case round =>
    obtain ⟨k, rfl, hk, bl, A, gc, hM⟩ := hrel
    have HM := Lib.hid hM
    by_cases hlt : k < n
    · obtain ⟨b, off, rfl, hb, cz⟩ := HZ.out.at hlt
      have cz' : wr.cell? ⟨b, off + k, none⟩ = some (.int .i64 (sz k : Nat)) := by
        rw [← HS.out k hlt]
        exact (hM.only.none.cell (p := ⟨b, off + k, none⟩) (by show b < _; omega)).trans cz
      have hne : b ≠ w.heap.size := by omega
      have hs := HF.out.2.2 k hlt
      rw [HS.out k hlt] at hs
      have c0 : wr.cell? ⟨w.heap.size, 0, none⟩ = some (.slice A k gc) := hM.box.cell 0
      have c0a : ∀ o, (wr.alloc o).cell? ⟨w.heap.size, 0, none⟩ = some (.slice A k gc) := fun o => (hM.box.alloc o).cell 0
      have c0b : ∀ o o', ((wr.alloc o).alloc o').cell? ⟨w.heap.size, 0, none⟩ = some (.slice A k gc) := fun o o' => ((hM.box.alloc o).alloc o').cell 0
      have hmk := make_cells (sz k) (by omega)
      have hwr := Lib.hid hM.only.size
      clear hM cz
      obtain ⟨s, hs'⟩ : ∃ s, sz k = s := ⟨_, rfl⟩
      have HS2 := Lib.hid hs'
      rw [hs'] at hmk hs cz'
      clear hs'
      obtain ⟨h1, h2⟩ := hs
      go_wp2
      go_region_law (first | (refine step_append_where rfl (.tmp 38) (.tmp 44) 72 rfl w.heap.size 75 (.slice none 0 0) 1 24 Tryz.underlying72 infoRow rfl (by decide) (.slice A k gc) k (rowsOf bl sz k) rfl (own_only HM.out.row (by first | exact (((Only.refl _ _).alloc _).alloc _).drew | exact ((Only.refl _ _).drew.alloc _).alloc _ | exact (((Only.refl _ _).alloc _).drew.alloc _))) ⟨wr.heap.size + 1, 0, none⟩ 1 1 [.slice (some ⟨wr.heap.size, 0, none⟩) s s] rfl rfl (new_one _ _ _ _) (fun u hu => by simp at hu; subst hu; rfl) (by unfold maxLen; omega) (by omega) (by have := hwr.out; simp; omega) (fun A' gc' w1 hown hg _ => ?_); obtain ⟨bp, hR⟩ := RMaking.next HM.out HS2.out (((Only.refl _ _).alloc _).drew) hown hg; have d0 : w1.cell? ⟨w.heap.size, 0, none⟩ = some (.slice A k gc) := bp.cell 0; have f0 : w1.frozen? ⟨w.heap.size, 0, none⟩ = false := bp.frozen 0; have R := Lib.hid hR; clear hown hg bp hR))
      all_goals
        go_wp2
        refine ⟨⟨k + 1, by go_num, by omega, _, _, _, R.out⟩, by simp [intOf]; omega⟩
    · obtain rfl : n = k := by omega
      clear hM
      go_wp2
      go_ret2
      exact ⟨_, _, rfl, HM.out.done hn1 hn (fun i hi => by have := HF.out.2.2 i hi; rw [HS.out i hi] at this; omega), HM.out.only, fun i hi => hi.1⟩
end Go.Proofs.YtmageeohnfomnaaGreat


namespace Go.Proofs.YtmageeohnfomnaaGreat
set_option maxRecDepth 100000
open Go.RowKit Go.ChangeShapes Go.WideShapes Go.ChangeAt

def RNoPost (w : World) (e : Ending) (w' : World) : Prop := e = .returned (.tuple #[.pointer none, .int .i64 1]) ∧ Only nobody w w'

set_option maxRecDepth 100000 in
set_option maxHeartbeats 2000000 in
theorem rnew_no (a : Option Addr) (n cap B : Nat) (z : Nat → Int) (w : World) (hn0 : n ≤ 9223372036854775807) (hz : Nums .i64 w B a n z) (hB : B ≤ w.heap.size) (hf : ¬ Fits n z) :
    Calls Tryz.prog 13 #[.slice a n cap] w (RNoPost w) := by
  by_cases h1 : n < 1
  · clear hf hz
    go_enter Tryz.func13, Tryz.ntmps13
    go_wp2
    go_ret2
    exact ⟨rfl, Only.refl _ _⟩
  by_cases h2 : 16 < n
  · clear hf hz
    go_enter Tryz.func13, Tryz.ntmps13
    go_wp2
    go_ret2
    exact ⟨rfl, Only.refl _ _⟩
  have hn : n ≤ 16 := by omega
  have hn1 : 1 ≤ n := by omega
  have HZ := Lib.hid hz
  have HF := Lib.hid hf
  obtain ⟨sz, hszd⟩ : ∃ sz : Nat → Nat, sz = fun i => (z i).toNat := ⟨_, rfl⟩
  have HSD := Lib.hid hszd
  clear hz hf hn0 h1 h2 hszd
  go_enter Tryz.func13, Tryz.ntmps13
  go_wp2
  go_loopw [5] (fun i wr => ∃ k : Nat, i = .int .i64 k ∧ k ≤ n ∧ RMakingAt w sz k wr ∧ Hid (∀ j, j < k → 1 ≤ z j ∧ z j ≤ 4096)) (fun i _ => n - (intOf i).toNat)
  case atStart => exact ⟨0, rfl, Nat.zero_le _, ⟨fun _ => 0, none, 0, RMaking.start w sz _⟩, fun j hj => absurd hj (by omega)⟩
  case round =>
    obtain ⟨k, rfl, hk, ⟨bl, A, gc, hM⟩, HJ⟩ := hrel
    have HM := Lib.hid hM
    by_cases hlt : k < n
    · obtain ⟨b, off, rfl, hb, cz⟩ := HZ.out.at hlt
      have cz' : wr.cell? ⟨b, off + k, none⟩ = some (.int .i64 (z k)) := (hM.only.none.cell (p := ⟨b, off + k, none⟩) (by show b < _; omega)).trans cz
      have hne : b ≠ w.heap.size := by omega
      obtain ⟨v, hv⟩ : ∃ v, z k = v := ⟨_, rfl⟩
      have HV := Lib.hid hv
      rw [hv] at cz'
      clear hv cz
      by_cases q1 : v < 1
      · clear hM
        go_wp2
        go_ret2
        exact ⟨rfl, HM.out.only⟩
      by_cases q2 : 4096 < v
      · clear hM
        go_wp2
        go_ret2
        exact ⟨rfl, HM.out.only⟩
      obtain ⟨s, rfl⟩ : ∃ s : Nat, v = (s : Int) := ⟨v.toNat, by omega⟩
      have c0 : wr.cell? ⟨w.heap.size, 0, none⟩ = some (.slice A k gc) := hM.box.cell 0
      have c0a : ∀ o, (wr.alloc o).cell? ⟨w.heap.size, 0, none⟩ = some (.slice A k gc) := fun o => (hM.box.alloc o).cell 0
      have c0b : ∀ o o', ((wr.alloc o).alloc o').cell? ⟨w.heap.size, 0, none⟩ = some (.slice A k gc) := fun o o' => ((hM.box.alloc o).alloc o').cell 0
      have hmk := make_cells s (by omega)
      have hwr := Lib.hid hM.only.size
      have HS2 : Hid (sz k = s) := by
        show sz k = s
        rw [HSD.out]
        show (z k).toNat = s
        rw [HV.out]; rfl
      clear hM
      have h1 : (1 : Int) ≤ s := by omega
      have h2 : (s : Int) ≤ 4096 := by omega
      clear q1 q2
      go_wp2
      go_region_law (first | (refine step_append_where rfl (.tmp 38) (.tmp 44) 72 rfl w.heap.size 75 (.slice none 0 0) 1 24 Tryz.underlying72 infoRow rfl (by decide) (.slice A k gc) k (rowsOf bl sz k) rfl (own_only HM.out.row (by first | exact (((Only.refl _ _).alloc _).alloc _).drew | exact ((Only.refl _ _).drew.alloc _).alloc _ | exact (((Only.refl _ _).alloc _).drew.alloc _))) ⟨wr.heap.size + 1, 0, none⟩ 1 1 [.slice (some ⟨wr.heap.size, 0, none⟩) s s] rfl rfl (new_one _ _ _ _) (fun u hu => by simp at hu; subst hu; rfl) (by unfold maxLen; omega) (by omega) (by have := hwr.out; simp; omega) (fun A' gc' w1 hown hg _ => ?_); obtain ⟨bp, hR⟩ := RMaking.next HM.out HS2.out (((Only.refl _ _).alloc _).drew) hown hg; have d0 : w1.cell? ⟨w.heap.size, 0, none⟩ = some (.slice A k gc) := bp.cell 0; have f0 : w1.frozen? ⟨w.heap.size, 0, none⟩ = false := bp.frozen 0; have R := Lib.hid hR; clear hown hg bp hR))
      all_goals
        go_wp2
        refine ⟨⟨k + 1, by go_num, by omega, ⟨_, _, _, R.out⟩, fun j hj => ?_⟩, by simp [intOf]; omega⟩
        by_cases e : j = k
        · subst e; rw [HV.out]; omega
        · exact HJ.out j (by omega)
    · exact absurd ⟨by omega, by omega, fun i hi => HJ.out i (by omega)⟩ HF.out
end Go.Proofs.YtmageeohnfomnaaGreat

