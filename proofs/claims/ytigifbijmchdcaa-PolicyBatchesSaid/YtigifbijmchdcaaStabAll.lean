/- slices.stableCmpFunc, SortStableFunc, at elements of k cells: what a row holds, in order. -/
import Derived.Test.YtigifbijmchdcaaStabSymA
import Derived.Test.YtigifbijmchdcaaStabSymB
namespace Go.Proofs.Ytigifbijmchdcaa
open Go.Shelf Go.RowKit Go.Lib Go.Sort
section
variable {α : Type} [Inhabited α] {lt : α → α → Bool}
/-- Up to A each block of s is in order. -/
structure BkSt (lt : α → α → Bool) (s n : Nat) (d : Array α) (A : Nat) (dk : Array α) : Prop where
  q : ∃ q, A = q * s
  to_ : RunsTo lt s A dk
  perm : PermIn 0 n d dk
theorem BkSt.start (s n : Nat) (hs : 0 < s) (d : Array α) : BkSt lt s n d 0 d := ⟨⟨0, by rw [Nat.zero_mul]⟩, RunsTo.zero hs d, permIn_refl _ _ _⟩
theorem BkSt.next {s n A : Nat} {d dk d' : Array α} (h : BkSt lt s n d A dk) (hs : 0 < s) (hA : A + s ≤ n) (hn : n ≤ dk.size) (hp : PermIn A (A + s) dk d') (hk : SortedIn lt A (A + s) d') : BkSt lt s n d (A + s) d' := by
  obtain ⟨⟨q, rfl⟩, t, p⟩ := h
  exact ⟨⟨q + 1, by rw [Nat.add_mul, Nat.one_mul]⟩, t.next hs hp hk, permIn_trans _ _ _ _ _ p (permIn_mono _ _ _ _ _ _ (Nat.zero_le _) hA hn hp)⟩
theorem BkSt.last {s n A : Nat} {d dk d' : Array α} (h : BkSt lt s n d A dk) (hs : 0 < s) (hA : n < A + s) (hn : n ≤ dk.size) (hp : PermIn A n dk d') (hk : SortedIn lt A n d') : RunsFrom lt s 0 n d' ∧ PermIn 0 n d d' := by
  obtain ⟨⟨q, rfl⟩, t, p⟩ := h
  exact ⟨t.all hs hA hp hk, permIn_trans _ _ _ _ _ p (permIn_mono _ _ _ _ _ _ (Nat.zero_le _) (Nat.le_refl _) hn hp)⟩
/-- Up to A blocks of s are put together. -/
structure MgSt (lt : α → α → Bool) (s n : Nat) (d : Array α) (A : Nat) (dk : Array α) : Prop where
  b : BkSt lt (2 * s) n d A dk
  from_ : RunsFrom lt s A n dk
theorem MgSt.start {s n : Nat} {d dk : Array α} (hs : 0 < s) (h : RunsFrom lt s 0 n dk) (p : PermIn 0 n d dk) : MgSt lt s n d 0 dk := ⟨⟨⟨0, by rw [Nat.zero_mul]⟩, RunsTo.zero (by omega) dk, p⟩, h⟩
theorem MgSt.one {s n A : Nat} {d dk : Array α} (h : MgSt lt s n d A dk) : SortedIn lt A (min (A + s) n) dk := by
  obtain ⟨⟨⟨q, rfl⟩, _, _⟩, f⟩ := h
  have e : q * (2 * s) = (2 * q) * s := by rw [Nat.mul_comm 2 q, Nat.mul_assoc]
  rw [e] at f ⊢
  exact f (2 * q) (Nat.le_refl _)
theorem MgSt.two {s n A : Nat} {d dk : Array α} (h : MgSt lt s n d A dk) : SortedIn lt (A + s) (min (A + 2 * s) n) dk := by
  obtain ⟨⟨⟨q, rfl⟩, _, _⟩, f⟩ := h
  have e : q * (2 * s) = (2 * q) * s := by rw [Nat.mul_comm 2 q, Nat.mul_assoc]
  rw [e] at f ⊢
  have := f (2 * q + 1) (by rw [Nat.add_mul]; omega)
  rw [Nat.add_mul, Nat.one_mul] at this
  rw [show 2 * q * s + 2 * s = 2 * q * s + s + s by omega]
  exact this
theorem MgSt.next {s n A : Nat} {d dk d' : Array α} (h : MgSt lt s n d A dk) (hs : 0 < s) (hA : A + 2 * s ≤ n) (hn : n ≤ dk.size) (hp : PermIn A (A + 2 * s) dk d') (hk : SortedIn lt A (A + 2 * s) d') : MgSt lt s n d (A + 2 * s) d' :=
  ⟨h.b.next (by omega) hA hn hp hk, h.from_.keep (by omega) hp (Nat.le_refl _)⟩
end
variable {P : Program} {α : Type} [Inhabited α]
set_option maxHeartbeats 4000000 in
theorem stab_sym (L : StabLay P) (k : Nat) (aE : ∀ w, (isAgg 29).run P w = .ok true w) (zE : ∀ w, (Go.sizeOf 29).run P w = .ok k w) (enc : α → List Value) (cf : α → α → Int) (hO : SWO (ltOf cf)) (g : Nat) (cb : Array Value) (blk off cap : Nat) (d0 : Array α) (w0 : World)
    (eg : ∀ args w, (callFunc g args).run P w = .ok (.enter g args) w) (hcmp : CmpLays P g cb enc k cf blk off d0.size w0) (R : RowK enc k w0 blk off d0) :
    ∀ (N a m b : Nat) (d : Array α) (w : World), b - a < N → d0.size = d.size → SWK enc k w0 blk off d w → a < m → m < b → b ≤ d.size → d.size < 1152921504606846976 → SortedIn (ltOf cf) a m d → SortedIn (ltOf cf) m b d →
    Calls P 31 #[.slice (some ⟨blk, off, none⟩) d.size cap, .int .i64 a, .int .i64 m, .int .i64 b, .func (.func g) #[] cb] w fun e w' => e = .returned (.tuple #[]) ∧ ∃ d', PermIn a b d d' ∧ SortedIn (ltOf cf) a b d' ∧ SWK enc k w0 blk off d' w' := by
  intro N
  induction N with
  | zero => intro _ _ _ _ _ h; exact absurd h (Nat.not_lt_zero _)
  | succ N ih =>
    intro a m b d w hN hs S ham hmb hb hsz hs1 hs2
    by_cases hone : m - a = 1
    · exact stab_one L k aE zE enc cf hO g cb blk off cap d0 w0 eg hcmp R a m b d w hs S ham hmb hb hsz hs1 hs2 hone
    by_cases htwo : b - m = 1
    · exact stab_two L k aE zE enc cf hO g cb blk off cap d0 w0 eg hcmp R a m b d w hs S ham hmb hb hsz hs1 hs2 hone htwo
    exact stab_mid L k aE zE enc cf hO g cb blk off cap d0 w0 eg hcmp R a m b d w hs S ham hmb hb hsz hs1 hs2 hone htwo fun a' m' b' d' w' h => ih a' m' b' d' w' (by omega)
/-- The insertion, from a world of the sort's to a world of the sort's. -/
theorem stab_ins (L : StabLay P) (k : Nat) (aE : ∀ w, (isAgg 29).run P w = .ok true w) (zE : ∀ w, (Go.sizeOf 29).run P w = .ok k w) (enc : α → List Value) (cf : α → α → Int) (hO : SWO (ltOf cf)) (g : Nat) (cb : Array Value) (blk off cap : Nat) (d0 : Array α) (w0 : World)
    (eg : ∀ args w, (callFunc g args).run P w = .ok (.enter g args) w) (hcmp : CmpLays P g cb enc k cf blk off d0.size w0) (R : RowK enc k w0 blk off d0)
    (a b : Nat) (d : Array α) (w : World) (hs : d0.size = d.size) (S : SWK enc k w0 blk off d w) (hab : a ≤ b) (hb : b ≤ d.size) (hsz : d.size < 4611686018427387904) :
    Calls P 30 #[.slice (some ⟨blk, off, none⟩) d.size cap, .int .i64 a, .int .i64 b, .func (.func g) #[] cb] w fun e w' => e = .returned (.tuple #[]) ∧ ∃ d', PermIn a b d d' ∧ SortedIn (ltOf cf) a b d' ∧ SWK enc k w0 blk off d' w' := by
  have hq := insertionSort_holds hO d a b hab hb
  have hC : CmpLays P g cb enc k cf blk off d.size w := fun m os dk hdk x y => by
    obtain ⟨n0, os0, rfl⟩ := S
    rw [sortWorldK_on enc k w0 blk off n0 m d dk os0 os R.hblk hdk]
    exact hcmp _ _ dk (by omega) x y
  refine (AnyQ.insertionSortCmpFunc L.ins k aE zE enc R.hk R.h1 cf g cb blk off cap a b d w eg hC (S.holds R.hblk R.hH hs.symm) (S.lt R.hblk) hab hb hsz).mono ?_
  rintro e w' ⟨rfl, n, os, rfl⟩
  exact ⟨rfl, _, hq.1, hq.2, S.on R.hblk n _ os hq.1.1⟩
set_option maxHeartbeats 4000000 in
set_option maxRecDepth 1000000 in
theorem stab_all (L : StabLay P) (k : Nat) (aE : ∀ w, (isAgg 29).run P w = .ok true w) (zE : ∀ w, (Go.sizeOf 29).run P w = .ok k w) (enc : α → List Value) (cf : α → α → Int) (hO : SWO (ltOf cf)) (g : Nat) (cb : Array Value) (blk off cap : Nat) (d0 : Array α) (w0 : World)
    (eg : ∀ args w, (callFunc g args).run P w = .ok (.enter g args) w) (hcmp : CmpLays P g cb enc k cf blk off d0.size w0) (R : RowK enc k w0 blk off d0)
    (d : Array α) (w : World) (hs : d0.size = d.size) (S : SWK enc k w0 blk off d w) (hsz : d.size < 1152921504606846976) :
    Calls P 26 #[.slice (some ⟨blk, off, none⟩) d.size cap, .int .i64 d.size, .func (.func g) #[] cb] w fun e w' => e = .returned (.tuple #[]) ∧ ∃ d', PermIn 0 d.size d d' ∧ SortedIn (ltOf cf) 0 d.size d' ∧ SWK enc k w0 blk off d' w' := by
  have mixed := L.mixed; have t0 := L.t0; have a0 := L.a0; have z0 := L.z0; have v0 := L.v0; have t3 := L.t3; have a3 := L.a3; have z3 := L.z3; have v3 := L.v3; have t4 := L.t4; have a4 := L.a4; have z4 := L.z4; have v4 := L.v4; have t22 := L.t22; have a22 := L.a22; have z22 := L.z22; have v22 := L.v22; have t50 := L.t50; have a50 := L.a50; have z50 := L.z50; have v50 := L.v50; have t60 := L.t60; have a60 := L.a60; have z60 := L.z60; have v60 := L.v60
  have FG := L.f_stableCmpFunc
  have eI : ∀ args w, (callFunc 30 args).run P w = .ok (.enter 30 args) w := L.ins.f20.enters rfl
  have eM : ∀ args w, (callFunc 31 args).run P w = .ok (.enter 31 args) w := enters_of L.f_symMergeCmpFunc (by rfl) rfl
  have HI : Aside _ := stab_ins L k aE zE enc cf hO g cb blk off cap d0 w0 eg hcmp R
  have HS : Aside _ := stab_sym L k aE zE enc cf hO g cb blk off cap d0 w0 eg hcmp R
  clear hcmp
  obtain ⟨n, hn⟩ : ∃ n, n = d.size := ⟨_, rfl⟩
  have HN : Hid (n = d.size) := hn
  rw [← hn] at hsz ⊢
  have hs' : d0.size = n := by omega
  clear hn hs
  have S0 : Aside (SWK enc k w0 blk off d w) := S
  clear S
  go_enter FG, Try.ntmps26
  go_wp2
  go_loopg [7, 8] (n + 20) (fun kx v7 v8 wr => ∃ (A : Nat) (dk : Array α), v7 = .int .i64 A ∧ v8 = .int .i64 ((A : Int) + 20) ∧ A ≤ n ∧ n + 20 - A ≤ kx ∧ Hid (BkSt (ltOf cf) 20 n d A dk) ∧ Aside (SWK enc k w0 blk off dk wr))
  case atStart => exact ⟨0, d, rfl, rfl, by omega, by omega, BkSt.start 20 n (by omega) d, S0⟩
  case round =>
    clear S0
    obtain ⟨A, dk, rfl, rfl, hA, hkx, HB, S1⟩ := hrel
    have hds : dk.size = n := by rw [HN.out]; exact HB.out.perm.1
    by_cases hlt : A + 20 ≤ n
    · have hltz : (A : Int) + 20 ≤ (n : Int) := by omega
      have hc := HI.out A (A + 20) dk wr (by omega) S1.out (by omega) (by omega) (by omega)
      rw [hds, show ((A + 20 : Nat) : Int) = (A : Int) + 20 by omega] at hc
      go_wp2_with (go_at_fn 30; refine hc.mono ?_; rintro e w1 ⟨rfl, d1, hp1, hs1, hw1⟩)
      go_roundg (n + 20 - (A + 20))
      case measure => omega
      case rel => exact ⟨A + 20, d1, by go_num, by go_num, hlt, Nat.le_refl _, HB.out.next (by omega) hlt (by omega) hp1 hs1, hw1⟩
    · have hltz : ¬ (A : Int) + 20 ≤ (n : Int) := by omega
      have hc := HI.out A n dk wr (by omega) S1.out hA (by omega) (by omega)
      rw [hds] at hc
      clear S1
      go_wp2_with (go_at_fn 30; refine hc.mono ?_; rintro e w1 ⟨rfl, d1, hp1, hs1, hw1⟩)
      have HR : Hid (RunsFrom (ltOf cf) 20 0 n d1 ∧ PermIn 0 n d d1) := HB.out.last (by omega) (by omega) (by omega) hp1 hs1
      have S1 : Aside (SWK enc k w0 blk off d1 w1) := hw1
      clear hp1 hs1 hw1 HB hds hc
      go_loopg [6, 7, 8, 9] n (fun kx v6 v7 v8 v9 wr => ∃ (s : Nat) (dk : Array α), v6 = .int .i64 s ∧ 0 < s ∧ n - s ≤ kx ∧ Hid (RunsFrom (ltOf cf) s 0 n dk ∧ PermIn 0 n d dk) ∧ Aside (SWK enc k w0 blk off dk wr))
      case atStart => exact ⟨20, d1, rfl, by omega, by omega, HR, S1⟩
      case round =>
        clear HR S1
        obtain ⟨s, dk, rfl, hs0, hks, HR, S1⟩ := hrel
        by_cases hsn : s < n
        · have hsz2 : (s : Int) < (n : Int) := by omega
          have M0 : Hid (MgSt (ltOf cf) s n d 0 dk) := MgSt.start hs0 HR.out.1 HR.out.2
          clear HR
          go_wp2
          go_loopg [7, 8] (n + 2 * s) (fun kx v7 v8 wr2 => ∃ (A : Nat) (dk : Array α), v7 = .int .i64 A ∧ v8 = .int .i64 ((A : Int) + 2 * (s : Int)) ∧ A ≤ n ∧ n + 2 * s - A ≤ kx ∧ Hid (MgSt (ltOf cf) s n d A dk) ∧ Aside (SWK enc k w0 blk off dk wr2))
          case atStart => exact ⟨0, dk, rfl, by go_num, by omega, by omega, M0, S1⟩
          case round =>
            clear S1 M0
            obtain ⟨B, dj, rfl, rfl, hB, hkb, HM, S2⟩ := hrel
            have hdj : dj.size = n := by rw [HN.out]; exact HM.out.b.perm.1
            by_cases hl2 : B + 2 * s ≤ n
            · have hl2z : (B : Int) + 2 * (s : Int) ≤ (n : Int) := by omega
              have r1 := HM.out.one
              have r2 := HM.out.two
              rw [Nat.min_eq_left (by omega)] at r1 r2
              have hc := HS.out (2 * s + 1) B (B + s) (B + 2 * s) dj wr (by omega) (by omega) S2.out (by omega) (by omega) (by omega) (by omega) r1 r2
              rw [hdj, show ((B + s : Nat) : Int) = (B : Int) + (s : Int) by omega, show ((B + 2 * s : Nat) : Int) = (B : Int) + 2 * (s : Int) by omega] at hc
              clear r1 r2
              go_wp2_with (go_at_fn 31; refine hc.mono ?_; rintro e w3 ⟨rfl, d3, hp3, hs3, hw3⟩)
              go_roundg (n + 2 * s - (B + 2 * s))
              case measure => omega
              case rel => exact ⟨B + 2 * s, d3, by go_num, by go_num, hl2, Nat.le_refl _, HM.out.next hs0 hl2 (by omega) hp3 hs3, hw3⟩
            · have hl2z : ¬ (B : Int) + 2 * (s : Int) ≤ (n : Int) := by omega
              by_cases hm : B + s < n
              · have hmz : (B : Int) + (s : Int) < (n : Int) := by omega
                have r1 := HM.out.one
                have r2 := HM.out.two
                rw [Nat.min_eq_left (by omega)] at r1
                rw [Nat.min_eq_right (by omega)] at r2
                have hc := HS.out (2 * s + 1) B (B + s) n dj wr (by omega) (by omega) S2.out (by omega) (by omega) (by omega) (by omega) r1 r2
                rw [hdj, show ((B + s : Nat) : Int) = (B : Int) + (s : Int) by omega] at hc
                clear r1 r2
                go_wp2_with (go_at_fn 31; refine hc.mono ?_; rintro e w3 ⟨rfl, d3, hp3, hs3, hw3⟩)
                have hr := HM.out.b.last (by omega) (by omega) (by omega) hp3 hs3
                go_roundg (n - 2 * s)
                case measure => omega
                case rel => exact ⟨2 * s, d3, by go_num, by omega, Nat.le_refl _, hr, hw3⟩
              · have hmz : ¬ (B : Int) + (s : Int) < (n : Int) := by omega
                have r1 := HM.out.one
                rw [Nat.min_eq_right (by omega)] at r1
                have hr := HM.out.b.last (by omega) (by omega) (by omega) (permIn_refl dj B n) r1
                have HRN : Hid _ := hr
                clear hr r1
                go_wp2
                go_roundg (n - 2 * s)
                case measure => omega
                case rel => exact ⟨2 * s, dj, by go_num, by omega, Nat.le_refl _, HRN.out, S2⟩
        · have hsz2 : ¬ (s : Int) < (n : Int) := by omega
          go_wp2
          go_end0
          exact ⟨rfl, dk, HR.out.2, HR.out.1.last (by omega), S1.out⟩
set_option maxHeartbeats 4000000 in
set_option maxRecDepth 1000000 in
/-- What SortStableFunc makes of a row: as it holds, in order. -/
theorem stab_sort (L : StabLay P) (k : Nat) (aE : ∀ w, (isAgg 29).run P w = .ok true w) (zE : ∀ w, (Go.sizeOf 29).run P w = .ok k w) (enc : α → List Value) (hk : ∀ x, (enc x).length = k) (h1 : ∀ x, ∀ v ∈ enc x, v.oneCell' = true) (cf : α → α → Int) (hO : SWO (ltOf cf)) (g : Nat) (cb : Array Value) (blk off cap : Nat) (d : Array α) (w : World)
    (eg : ∀ args w, (callFunc g args).run P w = .ok (.enter g args) w) (hcmp : CmpLays P g cb enc k cf blk off d.size w) (hH : HoldsK enc k w blk off d) (hblk : blk < w.heap.size) (hsz : d.size < 1152921504606846976) :
    Calls P 23 #[.slice (some ⟨blk, off, none⟩) d.size cap, .func (.func g) #[] cb] w fun e w' =>
      e = .returned (.tuple #[]) ∧ ∃ d' n os, PermIn 0 d.size d d' ∧ SortedIn (ltOf cf) 0 d.size d' ∧ w' = sortWorldK enc k w blk off n d' os := by
  have mixed := L.mixed; have t0 := L.t0; have a0 := L.a0; have z0 := L.z0; have v0 := L.v0; have t3 := L.t3; have a3 := L.a3; have z3 := L.z3; have v3 := L.v3; have t4 := L.t4; have a4 := L.a4; have z4 := L.z4; have v4 := L.v4; have t22 := L.t22; have a22 := L.a22; have z22 := L.z22; have v22 := L.v22; have t50 := L.t50; have a50 := L.a50; have z50 := L.z50; have v50 := L.v50; have t60 := L.t60; have a60 := L.a60; have z60 := L.z60; have v60 := L.v60
  have FG := L.f_SortStableFunc
  have eA : ∀ args w, (callFunc 26 args).run P w = .ok (.enter 26 args) w := enters_of L.f_stableCmpFunc (by rfl) rfl
  have hc := stab_all L k aE zE enc cf hO g cb blk off cap d w eg hcmp ⟨hk, h1, hH, hblk⟩ d w rfl (SWK.start hH) hsz
  clear hcmp hH hk h1
  go_enter FG, Try.ntmps23
  go_wp2_with (go_at_fn 26; refine hc.mono ?_; rintro e w1 ⟨rfl, d1, hp1, hs1, hw1⟩)
  go_end0
  obtain ⟨n, os, rfl⟩ := hw1
  exact ⟨rfl, d1, n, os, hp1, hs1, rfl⟩
end Go.Proofs.Ytigifbijmchdcaa
