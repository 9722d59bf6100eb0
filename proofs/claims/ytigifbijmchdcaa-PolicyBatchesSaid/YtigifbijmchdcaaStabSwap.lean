/- slices.swapRangeCmpFunc, rotateCmpFunc, at elements of k cells: after the shelf's texts on SortFunc's family. -/
import Derived.Test.YtigifbijmchdcaaStabLay
import Derived.Test.YtigifbijmchdcaaStabMath
import Derived.Sort.WalkB2
import Derived.Sort.WalkB12
import Derived.Deep.LoopGhost
namespace Go.Proofs.Ytigifbijmchdcaa
open Go.Shelf Go.RowKit Go.Lib Go.Sort
variable {P : Program} {α : Type} [Inhabited α]
set_option maxHeartbeats 4000000 in
set_option maxRecDepth 1000000 in
theorem stab_swap (L : StabLay P) (k : Nat) (aE : ∀ w, (isAgg 29).run P w = .ok true w) (zE : ∀ w, (Go.sizeOf 29).run P w = .ok k w) (enc : α → List Value) (g : Nat) (cb : Array Value) (blk off cap a b n : Nat) (d0 d : Array α) (w0 w : World)
    (R : RowK enc k w0 blk off d0) (hs : d0.size = d.size) (S : SWK enc k w0 blk off d w) (h1 : a + n ≤ b) (h2 : b + n ≤ d.size) (hsz : d.size < 4611686018427387904) :
    Calls P 35 #[.slice (some ⟨blk, off, none⟩) d.size cap, .int .i64 a, .int .i64 b, .int .i64 n, .func (.func g) #[] cb] w fun e w' => e = .returned (.tuple #[]) ∧ SWK enc k w0 blk off (swr d a b n) w' := by
  have mixed := L.mixed; have t0 := L.t0; have a0 := L.a0; have z0 := L.z0; have v0 := L.v0; have t3 := L.t3; have a3 := L.a3; have z3 := L.z3; have v3 := L.v3; have t4 := L.t4; have a4 := L.a4; have z4 := L.z4; have v4 := L.v4; have t22 := L.t22; have a22 := L.a22; have z22 := L.z22; have v22 := L.v22; have t50 := L.t50; have a50 := L.a50; have z50 := L.z50; have v50 := L.v50; have t60 := L.t60; have a60 := L.a60; have z60 := L.z60; have v60 := L.v60
  have FG := L.f_swapRangeCmpFunc
  have S0 : Aside (SWK enc k w0 blk off d w) := S
  clear S
  go_enter FG, Try.ntmps35
  go_wp2
  go_loopg [10] n (fun kx vi wr => ∃ (i : Nat), vi = .int .i64 i ∧ i ≤ n ∧ n - i ≤ kx ∧ Aside (SWK enc k w0 blk off (swr d a b i) wr))
  case atStart => exact ⟨0, rfl, by omega, by omega, S0⟩
  case round =>
    clear S0
    obtain ⟨i, rfl, hin, hkx, S1⟩ := hrel
    have hds : (swr d a b i).size = d.size := swr_size _ _ _ _
    by_cases hlt : i < n
    · have hltz : (i : Int) < (n : Int) := by omega
      have SN : Hid (swp (swr d a b i) (a + i) (b + i) = swr d a b (i + 1)) := rfl
      generalize swr d a b i = dk at S1 hds SN
      have eA0 : ((a : Int) + (i : Int)).toNat = a + i := by omega
      have pA0 : (0 : Int) ≤ (a : Int) + (i : Int) := by omega
      have bA0 : (a : Int) + (i : Int) < (d.size : Int) := by omega
      have rA0 : IntKind.i64.wrap ((a : Int) + (i : Int)) = (a : Int) + (i : Int) := by rw [IntKind.wrap_i64]; omega
      have eB0 : ((b : Int) + (i : Int)).toNat = b + i := by omega
      have pB0 : (0 : Int) ≤ (b : Int) + (i : Int) := by omega
      have bB0 : (b : Int) + (i : Int) < (d.size : Int) := by omega
      have rB0 : IntKind.i64.wrap ((b : Int) + (i : Int)) = (b : Int) + (i : Int) := by rw [IntKind.wrap_i64]; omega
      have S2 : Aside (SWK enc k w0 blk off (swp dk (a + i) (b + i)) ((wr.drew.setCells blk (off + (a + i) * k) (enc dk[b + i]!)).setCells blk (off + (b + i) * k) (enc dk[a + i]!))) := S1.out.swapped R (a + i) (b + i) (by omega) (by omega)
      have l0a := S1.out.ld1 R (by omega) P (a + i) (by omega)
      have l0b := S1.out.ld1 R (by omega) P (b + i) (by omega)
      have s0a := S1.out.st1 R (by omega) P (a + i) (by omega) dk[b + i]!
      have s0b := S1.out.st2 R (by omega) P (a + i) (b + i) (by omega) (by omega) dk[b + i]! dk[a + i]!
      have n0a : (enc dk[a + i]!).length = k := R.hk _
      have n0b : (enc dk[b + i]!).length = k := R.hk _
      generalize enc dk[a + i]! = cI0 at S2 l0a s0b n0a
      generalize enc dk[b + i]! = cJ0 at S2 l0b s0a s0b n0b
      clear S1
      go_wp2_with fail
      go_big_region_o
      clear l0a l0b s0a s0b
      generalize (wr.drew.setCells blk (off + (a + i) * k) cJ0).setCells blk (off + (b + i) * k) cI0 = w2 at S2 ⊢
      rw [SN.out] at S2
      go_wp2
      go_roundg (n - (i + 1))
      case measure => omega
      case rel => exact ⟨i + 1, by simp, by omega, Nat.le_refl _, S2⟩
    · have hltz : ¬ (i : Int) < (n : Int) := by omega
      go_wp2
      go_end0
      refine ⟨rfl, ?_⟩
      have : i = n := by omega
      subst this
      exact S1.out
set_option maxHeartbeats 4000000 in
set_option maxRecDepth 1000000 in
theorem stab_rotate (L : StabLay P) (k : Nat) (aE : ∀ w, (isAgg 29).run P w = .ok true w) (zE : ∀ w, (Go.sizeOf 29).run P w = .ok k w) (enc : α → List Value) (g : Nat) (cb : Array Value) (blk off cap a m b : Nat) (d0 d : Array α) (w0 w : World)
    (R : RowK enc k w0 blk off d0) (hs : d0.size = d.size) (S : SWK enc k w0 blk off d w) (h1 : a < m) (h2 : m < b) (hb : b ≤ d.size) (hsz : d.size < 4611686018427387904) :
    Calls P 34 #[.slice (some ⟨blk, off, none⟩) d.size cap, .int .i64 a, .int .i64 m, .int .i64 b, .func (.func g) #[] cb] w fun e w' => e = .returned (.tuple #[]) ∧ ∃ d', Turned d a m b d' ∧ SWK enc k w0 blk off d' w' := by
  have mixed := L.mixed; have t0 := L.t0; have a0 := L.a0; have z0 := L.z0; have v0 := L.v0; have t3 := L.t3; have a3 := L.a3; have z3 := L.z3; have v3 := L.v3; have t4 := L.t4; have a4 := L.a4; have z4 := L.z4; have v4 := L.v4; have t22 := L.t22; have a22 := L.a22; have z22 := L.z22; have v22 := L.v22; have t50 := L.t50; have a50 := L.a50; have z50 := L.z50; have v50 := L.v50; have t60 := L.t60; have a60 := L.a60; have z60 := L.z60; have v60 := L.v60
  have FG := L.f_rotateCmpFunc
  have eS : ∀ args w, (callFunc 35 args).run P w = .ok (.enter 35 args) w := enters_of L.f_swapRangeCmpFunc (by rfl) rfl
  have S0 : Aside (SWK enc k w0 blk off d w) := S
  clear S
  have wI : IntKind.i64.wrap ((m : Int) - (a : Int)) = ((m - a : Nat) : Int) := by rw [IntKind.wrap_i64]; omega
  have wJ : IntKind.i64.wrap ((b : Int) - (m : Int)) = ((b - m : Nat) : Int) := by rw [IntKind.wrap_i64]; omega
  go_enter FG, Try.ntmps34
  go_wp2
  go_loopg [10, 11] (b - a) (fun kx vi vj wr => ∃ (i j : Nat) (dk : Array α), vi = .int .i64 i ∧ vj = .int .i64 j ∧ i + j ≤ kx ∧ Hid (RotSt d a m b i j dk) ∧ Aside (SWK enc k w0 blk off dk wr))
  case atStart => exact ⟨m - a, b - m, d, by go_num, by go_num, by omega, RotSt.start d h1 h2, S0⟩
  case round =>
    clear S0 wI wJ
    obtain ⟨i, j, dk, rfl, rfl, hkx, HR, S1⟩ := hrel
    have hi := HR.out.hi
    have hj := HR.out.hj
    have hia := HR.out.hia
    have hjb := HR.out.hjb
    have hds : dk.size = d.size := HR.out.perm.1
    rcases Nat.lt_trichotomy i j with hlt | heq | hgt
    · have hne : ¬ ((i : Int) = (j : Int)) := by omega
      have hng : ¬ ((i : Int) > (j : Int)) := by omega
      have hc := stab_swap L k aE zE enc g cb blk off cap (m - i) (m + j - i) i d0 dk w0 wr R (by omega) S1.out (by omega) (by omega) (by omega)
      rw [show ((m - i : Nat) : Int) = (m : Int) - (i : Int) by omega, show ((m + j - i : Nat) : Int) = (m : Int) + (j : Int) - (i : Int) by omega, hds] at hc
      go_wp2_with (go_at_fn 35; refine hc.mono ?_; rintro e w1 ⟨rfl, hw1⟩)
      go_roundg (i + (j - i))
      case measure => omega
      case rel => exact ⟨i, j - i, _, rfl, by go_num, by omega, HR.out.right hb hlt, hw1⟩
    · subst heq
      have hc := stab_swap L k aE zE enc g cb blk off cap (m - i) m i d0 dk w0 wr R (by omega) S1.out (by omega) (by omega) (by omega)
      rw [show ((m - i : Nat) : Int) = (m : Int) - (i : Int) by omega, hds] at hc
      go_wp2_with (go_at_fn 35; refine hc.mono ?_; rintro e w1 ⟨rfl, hw1⟩)
      go_end0
      exact ⟨rfl, _, HR.out.last hb, hw1⟩
    · have hne : ¬ ((i : Int) = (j : Int)) := by omega
      have hg : (i : Int) > (j : Int) := by omega
      have hc := stab_swap L k aE zE enc g cb blk off cap (m - i) m j d0 dk w0 wr R (by omega) S1.out (by omega) (by omega) (by omega)
      rw [show ((m - i : Nat) : Int) = (m : Int) - (i : Int) by omega, hds] at hc
      go_wp2_with (go_at_fn 35; refine hc.mono ?_; rintro e w1 ⟨rfl, hw1⟩)
      go_roundg (i - j + j)
      case measure => omega
      case rel => exact ⟨i - j, j, _, by go_num, rfl, by omega, HR.out.left hb hgt, hw1⟩
end Go.Proofs.Ytigifbijmchdcaa
