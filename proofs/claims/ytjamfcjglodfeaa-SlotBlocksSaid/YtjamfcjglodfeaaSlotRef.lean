/- Contracts of package shellgameref15: Right, Expired, Enter, Use: what each returns; of what was in memory nothing turns. Conditions: words are of 64 bits, Next and a policy are ints. -/
import Derived.Below
import Derived.BigQuiet
import Derived.ChangeKeysEq
import Derived.ChangeSlices
import Derived.Deep.Cut
import Derived.Deep.Draws
import Derived.Deep.MidRow
import Derived.Deep.OwnRows
import Derived.Deep.QuietTactic
import Derived.Deep.WholeRow
import Derived.Laws.AppendOwn
import Derived.Laws.BitsAllLaws
import Derived.Laws.BytesArg
import Derived.Laws.NewBlocks
import Derived.Laws.StructEq
import Derived.Lib.Hide
import Derived.Lib.LazyBuf
import Derived.OpenShut
import Derived.ProofKit
import Derived.RowKit3
import Derived.SizedLaws
import Derived.WalkKit
import Derived.Test.YtjamfcjglodfeaaProg
import Derived.Test.YtjamfcjglodfeaaHeap
import Derived.Test.YtjamfcjglodfeaaPackMath
import Derived.Test.YtjamfcjglodfeaaPackWords
import Derived.Test.YtjamfcjglodfeaaSlotMath
namespace Go.Proofs.Ytjamfcjglodfeaa
open Go.RowKit Go.ChangeShapes Go.WideShapes Go.ChangeAt

theorem packed_any (k : Int) (w : World) (hk : U64 k) : Calls Try.prog 23 #[.int .u64 k] w fun e w' => e = .returned (.bool (pk k)) ∧ Below w.heap.size w w' := by
  obtain ⟨m, rfl⟩ := Int.eq_ofNat_of_zero_le hk.1
  have h2 := hk.2
  have HT := Lib.hid (fun W => refTextT m W (by omega))
  have e : pk (m : Int) = rt m := rfl
  rw [e]
  have ht := te_rt m
  clear h2 hk
  go_enter Try.func23, Try.ntmps23
  go_wp2_with fail
  refine (HT.out _).mono ?_
  rintro e w2 ⟨rfl, hb⟩
  go_wp2_with fail
  go_ret
  exact ⟨rfl, hb⟩
set_option maxHeartbeats 1000000 in
theorem rslright_false (k v t r n x : Int) (w : World) :
    Calls Try.prog 17 #[.agg #[.bool false, .int .u64 k, .int .u64 v, .int .u64 t, .int .u64 r, .int .u64 n, .int .i64 x]] w fun e w' => e = .returned (.bool (rtS false k v t r n x)) ∧ Below w.heap.size w w' := by
  have hq := fun W => eql_rslot ⟨false, k, v, t, r, n, x⟩ ⟨false, 0, 0, 0, 0, 0, x⟩ W
  have e : rtS false k v t r n x = (sleq ⟨false, k, v, t, r, n, x⟩ ⟨false, 0, 0, 0, 0, 0, x⟩ && decide (0 ≤ x) && decide (x ≤ 2147483648)) := by simp [rtS, sleq]
  rw [e]
  clear e
  unfold Sl.a at hq
  simp only at hq
  go_enter Try.func17, Try.ntmps17
  cases hs : sleq ⟨false, k, v, t, r, n, x⟩ ⟨false, 0, 0, 0, 0, 0, x⟩
  · rw [hs] at hq
    go_wp2_with fail
    go_ret
    exact ⟨rfl, (Below.refl _ w).alloc (Nat.le_refl _) _⟩
  · rw [hs] at hq
    cases h1 : decide (0 ≤ x)
    · go_wp2_with fail
      go_ret
      exact ⟨rfl, (Below.refl _ w).alloc (Nat.le_refl _) _⟩
    · go_wp2_with fail
      go_ret
      exact ⟨rfl, (Below.refl _ w).alloc (Nat.le_refl _) _⟩
set_option maxHeartbeats 1000000 in
theorem rslright_true (k v t r n x : Int) (w : World) (hk : U64 k) (hv : U64 v) :
    Calls Try.prog 17 #[.agg #[.bool true, .int .u64 k, .int .u64 v, .int .u64 t, .int .u64 r, .int .u64 n, .int .i64 x]] w fun e w' => e = .returned (.bool (rtS true k v t r n x)) ∧ Below w.heap.size w w' := by
  have HK := Lib.hid (fun W => packed_any k W hk)
  have HV := Lib.hid (fun W => packed_any v W hv)
  unfold rtS
  rw [if_pos rfl]
  go_enter Try.func17, Try.ntmps17
  go_wp2_with fail
  refine (HK.out _).mono ?_
  rintro e w2 ⟨rfl, hb⟩
  have hx : Box w2 w.heap.size 31 #[.bool true, .int .u64 k, .int .u64 v, .int .u64 t, .int .u64 r, .int .u64 n, .int .i64 x] := (Box.new w _ _).of (hb.block _ (by simp))
  have c2 : w2.cell? ⟨w.heap.size, 2, none⟩ = some (.int .u64 v) := hx.cell 2
  have c6 : w2.cell? ⟨w.heap.size, 6, none⟩ = some (.int .i64 x) := hx.cell 6
  have HB := Lib.hid (((Below.refl w.heap.size w).alloc (Nat.le_refl _) (.cells #[.bool true, .int .u64 k, .int .u64 v, .int .u64 t, .int .u64 r, .int .u64 n, .int .i64 x] 31)).trans (hb.mono (by simp)))
  have HX := Lib.hid hx
  clear hb hx
  cases h1 : pk k
  · go_wp2_with fail
    go_ret
    exact ⟨by rw [h1]; rfl, HB.out⟩
  · go_wp2_with fail
    refine (HV.out _).mono ?_
    rintro e w3 ⟨rfl, hb⟩
    have c6 : w3.cell? ⟨w.heap.size, 6, none⟩ = some (.int .i64 x) := (HX.out.of (hb.block _ HX.out.lt)).cell 6
    have HB := Lib.hid (HB.out.trans (hb.mono HB.out.size))
    clear hb c2
    cases h2 : pk v
    · go_wp2_with fail
      go_ret
      exact ⟨by rw [h1, h2]; rfl, HB.out⟩
    · go_wp2_with fail
      go_ret
      exact ⟨by rw [h1, h2]; rfl, HB.out⟩
theorem rslright_any (s : Sl) (w : World) (hs : s.Ok) : Calls Try.prog 17 #[.agg s.a] w fun e w' => e = .returned (.bool s.right) ∧ Below w.heap.size w w' := by
  obtain ⟨u, k, v, t, r, n, x⟩ := s
  cases u
  · exact rslright_false k v t r n x w
  · exact rslright_true k v t r n x w hs.k hs.v
set_option maxHeartbeats 1000000 in
theorem rslexpired_any (s : Sl) (now : Int) (w : World) (hs : s.Ok) : Calls Try.prog 21 #[.agg s.a, .int .u64 now] w fun e w' => e = .returned (.bool (s.ex now)) ∧ Below w.heap.size w w' := by
  obtain ⟨u, k, v, t, r, n, x⟩ := s
  have ht := hs.t
  unfold U64 at ht
  clear hs
  unfold Sl.a Sl.ex exS
  simp only at ht ⊢
  go_enter Try.func21, Try.ntmps21
  cases u
  · go_wp2_with fail
    go_ret
    exact ⟨rfl, (Below.refl _ w).alloc (Nat.le_refl _) _⟩
  by_cases h0 : t = 0
  · subst h0
    go_wp2_with fail
    go_ret
    exact ⟨rfl, (Below.refl _ w).alloc (Nat.le_refl _) _⟩
  · have h1 : (t != 0) = true := by simpa using h0
    have h2 : decide (0 < t) = true := by simp; omega
    clear h0 ht
    rw [h1]
    go_wp2_with fail
    go_ret
    exact ⟨by simp, (Below.refl _ w).alloc (Nat.le_refl _) _⟩
set_option maxHeartbeats 1000000 in
theorem rslenter_any (q now : Int) (w : World) (hq : I64 q) (hn : U64 now) : Calls Try.prog 12 #[.int .i64 q, .int .u64 now] w fun e w' => e = .returned (.tuple #[.int .u64 (enR q now), .int .u64 (enU q)]) ∧ w' = w := by
  unfold I64 at hq
  unfold U64 at hn
  have hw : IntKind.u64.wrap now = now := by rw [IntKind.wrap_u64]; omega
  unfold enR enU
  by_cases h2 : q = 2
  · subst h2
    rw [if_pos rfl, if_pos (by decide)]
    clear hw
    generalize hz : IntKind.u64.wrap (4294967296 + now) = z
    go_enter Try.func12, Try.ntmps12
    go_wp2_with fail
    go_ret2
    exact ⟨by rw [← hz]; simp [go_sem], rfl⟩
  · rw [if_neg h2]
    by_cases h0 : q = 0
    · subst h0
      rw [if_pos (by decide), if_pos (by decide)]
      go_enter Try.func12, Try.ntmps12
      go_wp2_with fail
      go_ret2
      exact ⟨by simp [go_sem], rfl⟩
    · by_cases h1 : q = 1
      · subst h1
        rw [if_pos (by decide), if_pos (by decide)]
        go_enter Try.func12, Try.ntmps12
        go_wp2_with fail
        go_ret2
        exact ⟨by simp [go_sem], rfl⟩
      · rw [if_neg (by omega), if_neg (by omega)]
        have g0 : (q == 0) = false := by simpa using h0
        have g1 : (q == 1) = false := by simpa using h1
        have g2 : (q == 2) = false := by simpa using h2
        have g3 : decide (q < 0) = true ∨ decide (q < 0) = false ∧ decide (2 < q) = true := by
          by_cases h : q < 0
          · exact .inl (by simpa using h)
          · exact .inr ⟨by simpa using h, by simp; omega⟩
        clear hq hn hw h0 h1 h2
        go_enter Try.func12, Try.ntmps12
        rcases g3 with g3 | ⟨g3, g4⟩
        · go_wp2_with fail
          go_ret2
          exact ⟨rfl, rfl⟩
        · go_wp2_with fail
          go_ret2
          exact ⟨rfl, rfl⟩
set_option maxHeartbeats 1000000 in
theorem rsluse_any (q : Int) (s : Sl) (now : Int) (w : World) (hq : I64 q) (hn : U64 now) : Calls Try.prog 14 #[.int .i64 q, .agg s.a, .int .u64 now] w fun e w' => e = .returned (.tuple #[.int .u64 (usR q s.r s.n now), .int .u64 (usU q s.n)]) ∧ Below w.heap.size w w' := by
  obtain ⟨u, k, v, t, r, n, x⟩ := s
  unfold I64 at hq
  unfold U64 at hn
  have hw : IntKind.u64.wrap now = now := by rw [IntKind.wrap_u64]; omega
  unfold usR usU
  simp only
  unfold Sl.a
  obtain ⟨w2, hw2⟩ : ∃ w2, w.alloc (.cells #[.bool u, .int .u64 k, .int .u64 v, .int .u64 t, .int .u64 r, .int .u64 n, .int .i64 x] 31) = w2 := ⟨_, rfl⟩
  obtain ⟨p, hp⟩ : ∃ p, w.heap.size = p := ⟨_, rfl⟩
  have hx : Box w2 p 31 #[.bool u, .int .u64 k, .int .u64 v, .int .u64 t, .int .u64 r, .int .u64 n, .int .i64 x] := by rw [← hw2, ← hp]; exact Box.new w _ _
  have HB := Lib.hid (show Below w.heap.size w w2 by rw [← hw2]; exact (Below.refl _ w).alloc (Nat.le_refl _) _)
  have c4 : w2.cell? ⟨p, 4, none⟩ = some (.int .u64 r) := hx.cell 4
  have c5 : w2.cell? ⟨p, 5, none⟩ = some (.int .u64 n) := hx.cell 5
  have HP := Lib.hid hp
  have HW := Lib.hid hw2
  clear hx hp hw2
  by_cases h2 : q = 2
  · subst h2
    rw [if_pos rfl, if_pos (by decide)]
    clear hw
    go_enter Try.func14, Try.ntmps14
    go_upto_region 7 with fail
    simp only [HP.out, HW.out]
    go_quiet (fail)
    go_wp2
    go_ret2
    exact ⟨by simp [go_sem], below_drewN HB.out _⟩
  · rw [if_neg h2]
    by_cases h0 : q = 0
    · subst h0
      rw [if_pos rfl, if_pos (by decide)]
      go_enter Try.func14, Try.ntmps14
      go_upto_region 4 with fail
      simp only [HP.out, HW.out]
      go_quiet (fail)
      go_wp2
      go_ret2
      exact ⟨by simp [go_sem], below_drewN HB.out _⟩
    · by_cases h1 : q = 1
      · subst h1
        rw [if_neg (by decide), if_pos (by decide)]
        go_enter Try.func14, Try.ntmps14
        go_upto_region 6 with fail
        simp only [HP.out, HW.out]
        go_quiet (fail)
        go_wp2
        go_ret2
        exact ⟨by simp [go_sem], below_drewN HB.out _⟩
      · rw [if_neg h0, if_neg (by omega)]
        have g0 : (q == 0) = false := by simpa using h0
        have g1 : (q == 1) = false := by simpa using h1
        have g2 : (q == 2) = false := by simpa using h2
        have g3 : decide (q < 0) = true ∨ decide (q < 0) = false ∧ decide (2 < q) = true := by
          by_cases h : q < 0
          · exact .inl (by simpa using h)
          · exact .inr ⟨by simpa using h, by simp; omega⟩
        clear hq hn hw h0 h1 h2
        go_enter Try.func14, Try.ntmps14
        rcases g3 with g3 | ⟨g3, g4⟩
        · go_upto_region 2 with fail
          simp only [HP.out, HW.out]
          go_quiet (fail)
          go_wp2
          go_ret2
          exact ⟨rfl, below_drewN HB.out _⟩
        · go_upto_region 2 with fail
          simp only [HP.out, HW.out]
          go_quiet (fail)
          go_wp2
          go_ret2
          exact ⟨rfl, below_drewN HB.out _⟩
end Go.Proofs.Ytjamfcjglodfeaa
