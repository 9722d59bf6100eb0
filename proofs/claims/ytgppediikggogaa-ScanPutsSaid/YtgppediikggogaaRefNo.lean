/- Contract of the document's own memory: New where sizes are not right: an error, and new blocks alone. -/
import Derived.Test.YtgppediikggogaaRefNew
namespace Go.Proofs.Ytgppediikggogaa
open Go.RowKit Go.ChangeShapes Go.WideShapes Go.ChangeAt

/-- Behind New: no memory. -/
def RNoPost (w : World) (e : Ending) (w' : World) : Prop := e = .returned (.tuple #[.pointer none, .int .i64 1]) ∧ Only nobody w w'

set_option maxRecDepth 100000 in
set_option maxHeartbeats 2000000 in
theorem rnew_no (a : Option Addr) (n cap B : Nat) (z : Nat → Int) (w : World) (hn0 : n ≤ 9223372036854775807) (hz : Nums .i64 w B a n z) (hB : B ≤ w.heap.size) (hf : ¬ Fits n z) :
    Calls Try.prog 32 #[.slice a n cap] w (RNoPost w) := by
  by_cases h1 : n < 1
  · clear hf hz
    go_enter Try.func32, Try.ntmps32
    go_wp2
    go_ret2
    exact ⟨rfl, Only.refl _ _⟩
  by_cases h2 : 16 < n
  · clear hf hz
    go_enter Try.func32, Try.ntmps32
    go_wp2
    go_ret2
    exact ⟨rfl, Only.refl _ _⟩
  have hn : n ≤ 16 := by omega
  have hn1 : 1 ≤ n := by omega
  have HZ := Lib.hid hz
  have HF := Lib.hid hf
  obtain ⟨sz, hszd⟩ : ∃ sz : Nat → Nat, sz = fun i => (z i).toNat := ⟨_, rfl⟩
  have HSD := Lib.hid hszd
  clear hz hf hn0 h1 h2 hszd
  go_enter Try.func32, Try.ntmps32
  go_wp2
  go_loopw [5] (fun i wr => ∃ k : Nat, i = .int .i64 k ∧ k ≤ n ∧ RMakingAt w sz k wr ∧ Hid (∀ j, j < k → 1 ≤ z j ∧ z j ≤ 4096)) (fun i _ => n - (intOf i).toNat)
  case atStart => exact ⟨0, rfl, Nat.zero_le _, ⟨fun _ => 0, none, 0, RMaking.start w sz _⟩, fun j hj => absurd hj (by omega)⟩
  case round =>
    obtain ⟨k, rfl, hk, ⟨bl, A, gc, hM⟩, HJ⟩ := hrel
    have HM := Lib.hid hM
    by_cases hlt : k < n
    · obtain ⟨b, off, rfl, hb, cz⟩ := HZ.out.at hlt
      have cz' : wr.cell? ⟨b, off + k, none⟩ = some (.int .i64 (z k)) := (hM.only.none.cell (p := ⟨b, off + k, none⟩) (by show b < _; omega)).trans cz
      have hne : b ≠ w.heap.size := by omega
      obtain ⟨v, hv⟩ : ∃ v, z k = v := ⟨_, rfl⟩
      have HV := Lib.hid hv
      rw [hv] at cz'
      clear hv cz
      by_cases q1 : v < 1
      · clear hM
        go_wp2
        go_ret2
        exact ⟨rfl, HM.out.only⟩
      by_cases q2 : 4096 < v
      · clear hM
        go_wp2
        go_ret2
        exact ⟨rfl, HM.out.only⟩
      obtain ⟨s, rfl⟩ : ∃ s : Nat, v = (s : Int) := ⟨v.toNat, by omega⟩
      have c0 : wr.cell? ⟨w.heap.size, 0, none⟩ = some (.slice A k gc) := hM.box.cell 0
      have c0a : ∀ o, (wr.alloc o).cell? ⟨w.heap.size, 0, none⟩ = some (.slice A k gc) := fun o => (hM.box.alloc o).cell 0
      have c0b : ∀ o o', ((wr.alloc o).alloc o').cell? ⟨w.heap.size, 0, none⟩ = some (.slice A k gc) := fun o o' => ((hM.box.alloc o).alloc o').cell 0
      have hmk := make_cells s (by omega)
      have hwr := Lib.hid hM.only.size
      have HS2 : Hid (sz k = s) := by
        show sz k = s
        rw [HSD.out]
        show (z k).toNat = s
        rw [HV.out]; rfl
      clear hM
      have h1 : (1 : Int) ≤ s := by omega
      have h2 : (s : Int) ≤ 4096 := by omega
      clear q1 q2
      go_wp2
      go_region_law (first | (refine step_append_where rfl (.tmp 38) (.tmp 44) 68 rfl w.heap.size 47 (.slice none 0 0) 1 24 Try.underlying68 infoRow rfl (by decide) (.slice A k gc) k (rowsOf bl sz k) rfl (own_only HM.out.row (by first | exact (((Only.refl _ _).alloc _).alloc _).drew | exact ((Only.refl _ _).drew.alloc _).alloc _ | exact (((Only.refl _ _).alloc _).drew.alloc _))) ⟨wr.heap.size + 1, 0, none⟩ 1 1 [.slice (some ⟨wr.heap.size, 0, none⟩) s s] rfl rfl (new_one _ _ _ _) (fun u hu => by simp at hu; subst hu; rfl) (by unfold maxLen; omega) (by omega) (by have := hwr.out; simp; omega) (fun A' gc' w1 hown hg _ => ?_); obtain ⟨bp, hR⟩ := RMaking.next HM.out HS2.out (((Only.refl _ _).alloc _).drew) hown hg; have d0 : w1.cell? ⟨w.heap.size, 0, none⟩ = some (.slice A k gc) := bp.cell 0; have f0 : w1.frozen? ⟨w.heap.size, 0, none⟩ = false := bp.frozen 0; have R := Lib.hid hR; clear hown hg bp hR))
      all_goals
        go_wp2
        refine ⟨⟨k + 1, by go_num, by omega, ⟨_, _, _, R.out⟩, fun j hj => ?_⟩, by simp [intOf]; omega⟩
        by_cases e : j = k
        · subst e; rw [HV.out]; omega
        · exact HJ.out j (by omega)
    · exact absurd ⟨by omega, by omega, fun i hi => HJ.out i (by omega)⟩ HF.out
end Go.Proofs.Ytgppediikggogaa
