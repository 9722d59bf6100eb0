/- slices.symMergeCmpFunc, at elements of k cells, where one of the runs has one element. -/
import Derived.Test.YtigifbijmchdcaaStabSwap
import Derived.Deep.CutRange
import Derived.Deep.Cut
namespace Go.Proofs.Ytigifbijmchdcaa
open Go.Shelf Go.RowKit Go.Lib Go.Sort
variable {P : Program} {α : Type} [Inhabited α]
set_option maxHeartbeats 40000000 in
set_option maxRecDepth 1000000 in
theorem stab_one (L : StabLay P) (k : Nat) (aE : ∀ w, (isAgg 29).run P w = .ok true w) (zE : ∀ w, (Go.sizeOf 29).run P w = .ok k w) (enc : α → List Value) (cf : α → α → Int) (hO : SWO (ltOf cf)) (g : Nat) (cb : Array Value) (blk off cap : Nat) (d0 : Array α) (w0 : World)
    (eg : ∀ args w, (callFunc g args).run P w = .ok (.enter g args) w) (hcmp : CmpLays P g cb enc k cf blk off d0.size w0) (R : RowK enc k w0 blk off d0)
    (a m b : Nat) (d : Array α) (w : World) (hs : d0.size = d.size) (S : SWK enc k w0 blk off d w) (ham : a < m) (hmb : m < b) (hb : b ≤ d.size) (hsz : d.size < 1152921504606846976) (hs1 : SortedIn (ltOf cf) a m d) (hs2 : SortedIn (ltOf cf) m b d) (hone : m - a = 1) :
    Calls P 31 #[.slice (some ⟨blk, off, none⟩) d.size cap, .int .i64 a, .int .i64 m, .int .i64 b, .func (.func g) #[] cb] w fun e w' => e = .returned (.tuple #[]) ∧ ∃ d', PermIn a b d d' ∧ SortedIn (ltOf cf) a b d' ∧ SWK enc k w0 blk off d' w' := by
  have mixed := L.mixed; have t0 := L.t0; have a0 := L.a0; have z0 := L.z0; have v0 := L.v0; have t3 := L.t3; have a3 := L.a3; have z3 := L.z3; have v3 := L.v3; have t4 := L.t4; have a4 := L.a4; have z4 := L.z4; have v4 := L.v4; have t22 := L.t22; have a22 := L.a22; have z22 := L.z22; have v22 := L.v22; have t50 := L.t50; have a50 := L.a50; have z50 := L.z50; have v50 := L.v50; have t60 := L.t60; have a60 := L.a60; have z60 := L.z60; have v60 := L.v60
  have FG := L.f_symMergeCmpFunc
  have HC : Aside _ := hcmp
  clear hcmp
  have S0 : Aside (SWK enc k w0 blk off d w) := S
  have Q1 : Hid (SortedIn (ltOf cf) a m d) := hs1
  have Q2 : Hid (SortedIn (ltOf cf) m b d) := hs2
  clear S hs1 hs2
  go_enter FG, Try.ntmps31
  have h1z : (m : Int) - (a : Int) = 1 := by omega
  have HMA : Hid (m = a + 1) := by show _ = _; omega
  go_wp2
  go_loopg [10, 11] (b - m) (fun kx vi vj wr => ∃ (i j : Nat), vi = .int .i64 i ∧ vj = .int .i64 j ∧ m ≤ i ∧ i ≤ j ∧ j ≤ b ∧ j - i ≤ kx ∧ Hid (FindL (ltOf cf) d m b d[a]! i j) ∧ Aside (SWK enc k w0 blk off d wr))
  case atStart => exact ⟨m, b, rfl, rfl, by omega, by omega, by omega, by omega, FindL.start d _ (by omega), S0⟩
  case round =>
    clear S0
    obtain ⟨i, j, rfl, rfl, hmi, hij, hjb, hkx, HF, S1⟩ := hrel
    by_cases hlt : i < j
    · have hltz : (i : Int) < (j : Int) := by omega
      obtain ⟨h, hh⟩ : ∃ h, h = (i + j) / 2 := ⟨_, rfl⟩
      have hz : ((i : Int) + (j : Int)) / 2 = (h : Int) := by omega
      have hb1 : i ≤ h := by omega
      have hb2 : h < j := by omega
      have HH : Hid (h = (i + j) / 2) := hh
      clear hh
      cases hlv : ltOf cf d[h]! d[a]! with
      | true =>
        have HL : Hid (ltOf cf d[h]! d[a]! = true) := hlv
        clear hlv
        have eA1 : ((h : Int)).toNat = h := by omega
        have pA1 : (0 : Int) ≤ (h : Int) := by omega
        have bA1 : (h : Int) < (d.size : Int) := by omega
        have rA1 : IntKind.i64.wrap ((h : Int)) = (h : Int) := by rw [IntKind.wrap_i64]; omega
        have eB1 : ((a : Int)).toNat = a := by omega
        have pB1 : (0 : Int) ≤ (a : Int) := by omega
        have bB1 : (a : Int) < (d.size : Int) := by omega
        have rB1 : IntKind.i64.wrap ((a : Int)) = (a : Int) := by rw [IntKind.wrap_i64]; omega
        obtain ⟨x1, hx1⟩ : ∃ x, x = d[h]! := ⟨_, rfl⟩
        obtain ⟨y1, hy1⟩ : ∃ x, x = d[a]! := ⟨_, rfl⟩
        have l1a := S1.out.ld R (by omega) P (h) (by omega)
        have l1b := S1.out.ld R (by omega) P (a) (by omega)
        rw [← hx1] at l1a
        rw [← hy1] at l1b
        have hc1 := S1.out.cmp HC.out (by omega) x1 y1
        have hv1 : cf x1 y1 < 0 := by rw [hx1, hy1]; exact of_decide_eq_true HL.out
        have hd1 : decide (cf x1 y1 < 0) = true := decide_eq_true hv1
        clear hx1 hy1
        go_wp2_with fail
        go_quiet_grown (first | (go_at_fn g; refine Calls.grown_of (hc1 _ _)))
        have S2 : Aside (SWK enc k w0 blk off (d) (grow (wr.drewN nq) osq)) := S1.out.grown nq osq
        clear l1a l1b hc1 S1
        generalize grow (wr.drewN nq) osq = w2 at S2 ⊢
        clear nq osq
        go_wp2
        go_roundg (j - (h + 1))
        case measure => omega
        case rel => exact ⟨h + 1, j, by simp, rfl, by omega, by omega, by omega, by omega, HF.out.up hO Q2.out hb1 hb2 HL.out, S2⟩
      | false =>
        have HL : Hid (ltOf cf d[h]! d[a]! = false) := hlv
        clear hlv
        have eA2 : ((h : Int)).toNat = h := by omega
        have pA2 : (0 : Int) ≤ (h : Int) := by omega
        have bA2 : (h : Int) < (d.size : Int) := by omega
        have rA2 : IntKind.i64.wrap ((h : Int)) = (h : Int) := by rw [IntKind.wrap_i64]; omega
        have eB2 : ((a : Int)).toNat = a := by omega
        have pB2 : (0 : Int) ≤ (a : Int) := by omega
        have bB2 : (a : Int) < (d.size : Int) := by omega
        have rB2 : IntKind.i64.wrap ((a : Int)) = (a : Int) := by rw [IntKind.wrap_i64]; omega
        obtain ⟨x2, hx2⟩ : ∃ x, x = d[h]! := ⟨_, rfl⟩
        obtain ⟨y2, hy2⟩ : ∃ x, x = d[a]! := ⟨_, rfl⟩
        have l2a := S1.out.ld R (by omega) P (h) (by omega)
        have l2b := S1.out.ld R (by omega) P (a) (by omega)
        rw [← hx2] at l2a
        rw [← hy2] at l2b
        have hc2 := S1.out.cmp HC.out (by omega) x2 y2
        have hv2 : ¬ cf x2 y2 < 0 := by rw [hx2, hy2]; exact of_decide_eq_false HL.out
        have hd2 : decide (cf x2 y2 < 0) = false := decide_eq_false hv2
        clear hx2 hy2
        go_wp2_with fail
        go_quiet_grown (first | (go_at_fn g; refine Calls.grown_of (hc2 _ _)))
        have S2 : Aside (SWK enc k w0 blk off (d) (grow (wr.drewN nq) osq)) := S1.out.grown nq osq
        clear l2a l2b hc2 S1
        generalize grow (wr.drewN nq) osq = w2 at S2 ⊢
        clear nq osq
        go_wp2
        go_roundg (h - i)
        case measure => omega
        case rel => exact ⟨i, h, rfl, rfl, by omega, by omega, by omega, by omega, HF.out.down hO Q2.out hb1 hb2 HL.out, S2⟩
    · have hltz : ¬ (i : Int) < (j : Int) := by omega
      have hji : j = i := by omega
      subst hji
      have HF2 : Hid (FindL (ltOf cf) d (a + 1) b d[a]! j j) := by have := HF.out; rw [HMA.out] at this; exact this
      have Q3 : Hid (SortedIn (ltOf cf) (a + 1) b d) := by have := Q2.out; rw [HMA.out] at this; exact this
      go_wp2
      go_loopg [13] (b - a) (fun kx vk wr2 => ∃ (q : Nat) (dk : Array α), vk = .int .i64 q ∧ a ≤ q ∧ q + 1 ≤ j ∧ j - 1 - q ≤ kx ∧ Hid (GoUp d a b q dk) ∧ Aside (SWK enc k w0 blk off dk wr2))
      case atStart => exact ⟨a, d, rfl, by omega, by omega, by omega, GoUp.start d a b, S1⟩
      case round =>
        clear S1
        obtain ⟨q, dk, rfl, haq, hqj, hkq, HG, S2⟩ := hrel
        have hds : dk.size = d.size := HG.out.perm.1
        by_cases hq : q + 1 < j
        · have hqz : (q : Int) < (j : Int) - 1 := by omega
          have eA3 : ((q : Int)).toNat = q := by omega
          have pA3 : (0 : Int) ≤ (q : Int) := by omega
          have bA3 : (q : Int) < (d.size : Int) := by omega
          have rA3 : IntKind.i64.wrap ((q : Int)) = (q : Int) := by rw [IntKind.wrap_i64]; omega
          have eB3 : ((q : Int) + 1).toNat = q + 1 := by omega
          have pB3 : (0 : Int) ≤ (q : Int) + 1 := by omega
          have bB3 : (q : Int) + 1 < (d.size : Int) := by omega
          have rB3 : IntKind.i64.wrap ((q : Int) + 1) = (q : Int) + 1 := by rw [IntKind.wrap_i64]; omega
          have S3 : Aside (SWK enc k w0 blk off (swp dk (q) (q + 1)) ((wr.drew.setCells blk (off + (q) * k) (enc dk[q + 1]!)).setCells blk (off + (q + 1) * k) (enc dk[q]!))) := S2.out.swapped R (q) (q + 1) (by omega) (by omega)
          have l3a := S2.out.ld1 R (by omega) P (q) (by omega)
          have l3b := S2.out.ld1 R (by omega) P (q + 1) (by omega)
          have s3a := S2.out.st1 R (by omega) P (q) (by omega) dk[q + 1]!
          have s3b := S2.out.st2 R (by omega) P (q) (q + 1) (by omega) (by omega) dk[q + 1]! dk[q]!
          have n3a : (enc dk[q]!).length = k := R.hk _
          have n3b : (enc dk[q + 1]!).length = k := R.hk _
          generalize enc dk[q]! = cI3 at S3 l3a s3b n3a
          generalize enc dk[q + 1]! = cJ3 at S3 l3b s3a s3b n3b
          clear S2
          go_wp2_with fail
          go_big_region_o
          clear l3a l3b s3a s3b
          generalize (wr.drew.setCells blk (off + (q) * k) cJ3).setCells blk (off + (q + 1) * k) cI3 = w3 at S3 ⊢
          go_wp2
          go_roundg (j - 1 - (q + 1))
          case measure => omega
          case rel => exact ⟨q + 1, _, by simp, by omega, by omega, Nat.le_refl _, HG.out.step (by omega) hb, S3⟩
        · have hqz : ¬ (q : Int) < (j : Int) - 1 := by omega
          go_wp2
          (try simp only [Exit.inBlock, Exit.then]); refine bodyPost_ret (results_none rfl _ _ _) rfl ?_
          have hqe : q = j - 1 := by omega
          subst hqe
          exact ⟨rfl, dk, HG.out.perm, HG.out.sorted hO Q3.out HF2.out, S2.out⟩
set_option maxHeartbeats 40000000 in
set_option maxRecDepth 1000000 in
theorem stab_two (L : StabLay P) (k : Nat) (aE : ∀ w, (isAgg 29).run P w = .ok true w) (zE : ∀ w, (Go.sizeOf 29).run P w = .ok k w) (enc : α → List Value) (cf : α → α → Int) (hO : SWO (ltOf cf)) (g : Nat) (cb : Array Value) (blk off cap : Nat) (d0 : Array α) (w0 : World)
    (eg : ∀ args w, (callFunc g args).run P w = .ok (.enter g args) w) (hcmp : CmpLays P g cb enc k cf blk off d0.size w0) (R : RowK enc k w0 blk off d0)
    (a m b : Nat) (d : Array α) (w : World) (hs : d0.size = d.size) (S : SWK enc k w0 blk off d w) (ham : a < m) (hmb : m < b) (hb : b ≤ d.size) (hsz : d.size < 1152921504606846976) (hs1 : SortedIn (ltOf cf) a m d) (hs2 : SortedIn (ltOf cf) m b d) (hone : ¬ m - a = 1) (htwo : b - m = 1) :
    Calls P 31 #[.slice (some ⟨blk, off, none⟩) d.size cap, .int .i64 a, .int .i64 m, .int .i64 b, .func (.func g) #[] cb] w fun e w' => e = .returned (.tuple #[]) ∧ ∃ d', PermIn a b d d' ∧ SortedIn (ltOf cf) a b d' ∧ SWK enc k w0 blk off d' w' := by
  have mixed := L.mixed; have t0 := L.t0; have a0 := L.a0; have z0 := L.z0; have v0 := L.v0; have t3 := L.t3; have a3 := L.a3; have z3 := L.z3; have v3 := L.v3; have t4 := L.t4; have a4 := L.a4; have z4 := L.z4; have v4 := L.v4; have t22 := L.t22; have a22 := L.a22; have z22 := L.z22; have v22 := L.v22; have t50 := L.t50; have a50 := L.a50; have z50 := L.z50; have v50 := L.v50; have t60 := L.t60; have a60 := L.a60; have z60 := L.z60; have v60 := L.v60
  have FG := L.f_symMergeCmpFunc
  have HC : Aside _ := hcmp
  clear hcmp
  have S0 : Aside (SWK enc k w0 blk off d w) := S
  have Q1 : Hid (SortedIn (ltOf cf) a m d) := hs1
  have Q2 : Hid (SortedIn (ltOf cf) m b d) := hs2
  clear S hs1 hs2
  have h1b : ((m : Int) - (a : Int) == 1) = false := by simp; omega
  go_enter FG, Try.ntmps31
  have h1z : ¬ ((m : Int) - (a : Int) = 1) := by omega
  have h2z : (b : Int) - (m : Int) = 1 := by omega
  have HBM : Hid (b = m + 1) := by show _ = _; omega
  go_wp2
  go_loopg [14, 15] (m - a) (fun kx vi vj wr => ∃ (i j : Nat), vi = .int .i64 i ∧ vj = .int .i64 j ∧ a ≤ i ∧ i ≤ j ∧ j ≤ m ∧ j - i ≤ kx ∧ Hid (FindR (ltOf cf) d a m d[m]! i j) ∧ Aside (SWK enc k w0 blk off d wr))
  case atStart => exact ⟨a, m, rfl, rfl, by omega, by omega, by omega, by omega, FindR.start d _ (by omega), S0⟩
  case round =>
    clear S0
    obtain ⟨i, j, rfl, rfl, hmi, hij, hjb, hkx, HF, S1⟩ := hrel
    by_cases hlt : i < j
    · have hltz : (i : Int) < (j : Int) := by omega
      obtain ⟨h, hh⟩ : ∃ h, h = (i + j) / 2 := ⟨_, rfl⟩
      have hz : ((i : Int) + (j : Int)) / 2 = (h : Int) := by omega
      have hb1 : i ≤ h := by omega
      have hb2 : h < j := by omega
      have HH : Hid (h = (i + j) / 2) := hh
      clear hh
      cases hlv : ltOf cf d[m]! d[h]! with
      | true =>
        have HL : Hid (ltOf cf d[m]! d[h]! = true) := hlv
        clear hlv
        have eA4 : ((m : Int)).toNat = m := by omega
        have pA4 : (0 : Int) ≤ (m : Int) := by omega
        have bA4 : (m : Int) < (d.size : Int) := by omega
        have rA4 : IntKind.i64.wrap ((m : Int)) = (m : Int) := by rw [IntKind.wrap_i64]; omega
        have eB4 : ((h : Int)).toNat = h := by omega
        have pB4 : (0 : Int) ≤ (h : Int) := by omega
        have bB4 : (h : Int) < (d.size : Int) := by omega
        have rB4 : IntKind.i64.wrap ((h : Int)) = (h : Int) := by rw [IntKind.wrap_i64]; omega
        obtain ⟨x4, hx4⟩ : ∃ x, x = d[m]! := ⟨_, rfl⟩
        obtain ⟨y4, hy4⟩ : ∃ x, x = d[h]! := ⟨_, rfl⟩
        have l4a := S1.out.ld R (by omega) P (m) (by omega)
        have l4b := S1.out.ld R (by omega) P (h) (by omega)
        rw [← hx4] at l4a
        rw [← hy4] at l4b
        have hc4 := S1.out.cmp HC.out (by omega) x4 y4
        have hv4 : cf x4 y4 < 0 := by rw [hx4, hy4]; exact of_decide_eq_true HL.out
        have hd4 : decide (cf x4 y4 < 0) = true := decide_eq_true hv4
        clear hx4 hy4
        go_wp2_with fail
        go_quiet_grown (first | (go_at_fn g; refine Calls.grown_of (hc4 _ _)))
        have S2 : Aside (SWK enc k w0 blk off (d) (grow (wr.drewN nq) osq)) := S1.out.grown nq osq
        clear l4a l4b hc4 S1
        generalize grow (wr.drewN nq) osq = w2 at S2 ⊢
        clear nq osq
        go_wp2
        go_roundg (h - i)
        case measure => omega
        case rel => exact ⟨i, h, rfl, rfl, by omega, by omega, by omega, by omega, HF.out.down hO Q1.out hb1 hb2 HL.out, S2⟩
      | false =>
        have HL : Hid (ltOf cf d[m]! d[h]! = false) := hlv
        clear hlv
        have eA5 : ((m : Int)).toNat = m := by omega
        have pA5 : (0 : Int) ≤ (m : Int) := by omega
        have bA5 : (m : Int) < (d.size : Int) := by omega
        have rA5 : IntKind.i64.wrap ((m : Int)) = (m : Int) := by rw [IntKind.wrap_i64]; omega
        have eB5 : ((h : Int)).toNat = h := by omega
        have pB5 : (0 : Int) ≤ (h : Int) := by omega
        have bB5 : (h : Int) < (d.size : Int) := by omega
        have rB5 : IntKind.i64.wrap ((h : Int)) = (h : Int) := by rw [IntKind.wrap_i64]; omega
        obtain ⟨x5, hx5⟩ : ∃ x, x = d[m]! := ⟨_, rfl⟩
        obtain ⟨y5, hy5⟩ : ∃ x, x = d[h]! := ⟨_, rfl⟩
        have l5a := S1.out.ld R (by omega) P (m) (by omega)
        have l5b := S1.out.ld R (by omega) P (h) (by omega)
        rw [← hx5] at l5a
        rw [← hy5] at l5b
        have hc5 := S1.out.cmp HC.out (by omega) x5 y5
        have hv5 : ¬ cf x5 y5 < 0 := by rw [hx5, hy5]; exact of_decide_eq_false HL.out
        have hd5 : decide (cf x5 y5 < 0) = false := decide_eq_false hv5
        clear hx5 hy5
        go_wp2_with fail
        go_quiet_grown (first | (go_at_fn g; refine Calls.grown_of (hc5 _ _)))
        have S2 : Aside (SWK enc k w0 blk off (d) (grow (wr.drewN nq) osq)) := S1.out.grown nq osq
        clear l5a l5b hc5 S1
        generalize grow (wr.drewN nq) osq = w2 at S2 ⊢
        clear nq osq
        go_wp2
        go_roundg (j - (h + 1))
        case measure => omega
        case rel => exact ⟨h + 1, j, by simp, rfl, by omega, by omega, by omega, by omega, HF.out.up hO Q1.out hb1 hb2 HL.out, S2⟩
    · have hltz : ¬ (i : Int) < (j : Int) := by omega
      have hji : j = i := by omega
      subst hji
      go_wp2
      go_loopg [17] (m - a) (fun kx vk wr2 => ∃ (q : Nat) (dk : Array α), vk = .int .i64 q ∧ j ≤ q ∧ q ≤ m ∧ q - j ≤ kx ∧ Hid (GoDn d a m q dk) ∧ Aside (SWK enc k w0 blk off dk wr2))
      case atStart => exact ⟨m, d, rfl, by omega, by omega, by omega, GoDn.start d a m, S1⟩
      case round =>
        clear S1
        obtain ⟨q, dk, rfl, hjq, hqm, hkq, HG, S2⟩ := hrel
        have hds : dk.size = d.size := HG.out.perm.1
        by_cases hq : j < q
        · obtain ⟨p, rfl⟩ : ∃ p, q = p + 1 := ⟨q - 1, by omega⟩
          have hqz : (p : Int) + 1 > (j : Int) := by omega
          have eA6 : ((p : Int) + 1).toNat = p + 1 := by omega
          have pA6 : (0 : Int) ≤ (p : Int) + 1 := by omega
          have bA6 : (p : Int) + 1 < (d.size : Int) := by omega
          have rA6 : IntKind.i64.wrap ((p : Int) + 1) = (p : Int) + 1 := by rw [IntKind.wrap_i64]; omega
          have eB6 : ((p : Int)).toNat = p := by omega
          have pB6 : (0 : Int) ≤ (p : Int) := by omega
          have bB6 : (p : Int) < (d.size : Int) := by omega
          have rB6 : IntKind.i64.wrap ((p : Int)) = (p : Int) := by rw [IntKind.wrap_i64]; omega
          have S3 : Aside (SWK enc k w0 blk off (swp dk (p + 1) (p)) ((wr.drew.setCells blk (off + (p + 1) * k) (enc dk[p]!)).setCells blk (off + (p) * k) (enc dk[p + 1]!))) := S2.out.swapped R (p + 1) (p) (by omega) (by omega)
          have l6a := S2.out.ld1 R (by omega) P (p + 1) (by omega)
          have l6b := S2.out.ld1 R (by omega) P (p) (by omega)
          have s6a := S2.out.st1 R (by omega) P (p + 1) (by omega) dk[p]!
          have s6b := S2.out.st2 R (by omega) P (p + 1) (p) (by omega) (by omega) dk[p]! dk[p + 1]!
          have n6a : (enc dk[p + 1]!).length = k := R.hk _
          have n6b : (enc dk[p]!).length = k := R.hk _
          generalize enc dk[p + 1]! = cI6 at S3 l6a s6b n6a
          generalize enc dk[p]! = cJ6 at S3 l6b s6a s6b n6b
          clear S2
          go_wp2_with fail
          go_big_region_o
          clear l6a l6b s6a s6b
          generalize (wr.drew.setCells blk (off + (p + 1) * k) cJ6).setCells blk (off + (p) * k) cI6 = w3 at S3 ⊢
          go_wp2
          go_roundg (p - j)
          case measure => omega
          case rel => exact ⟨p, _, by simp, by omega, by omega, Nat.le_refl _, HG.out.step (by omega) (by omega), S3⟩
        · have hqz : ¬ (q : Int) > (j : Int) := by omega
          go_wp2
          (try simp only [Exit.inBlock, Exit.then]); refine bodyPost_ret (results_none rfl _ _ _) rfl ?_
          have hqe : q = j := by omega
          subst hqe
          rw [HBM.out]
          exact ⟨rfl, dk, HG.out.perm, HG.out.sorted hO Q1.out HF.out, S2.out⟩
end Go.Proofs.Ytigifbijmchdcaa
