/- slices.symMergeCmpFunc, at elements of k cells: the middle. -/
import Derived.Test.YtigifbijmchdcaaStabSwap
import Derived.Deep.CutRange
import Derived.Deep.Cut
namespace Go.Proofs.Ytigifbijmchdcaa
open Go.Shelf Go.RowKit Go.Lib Go.Sort
variable {P : Program} {α : Type} [Inhabited α]
set_option maxHeartbeats 40000000 in
set_option maxRecDepth 1000000 in
theorem stab_mid (L : StabLay P) (k : Nat) (aE : ∀ w, (isAgg 29).run P w = .ok true w) (zE : ∀ w, (Go.sizeOf 29).run P w = .ok k w) (enc : α → List Value) (cf : α → α → Int) (hO : SWO (ltOf cf)) (g : Nat) (cb : Array Value) (blk off cap : Nat) (d0 : Array α) (w0 : World)
    (eg : ∀ args w, (callFunc g args).run P w = .ok (.enter g args) w) (hcmp : CmpLays P g cb enc k cf blk off d0.size w0) (R : RowK enc k w0 blk off d0)
    (a m b : Nat) (d : Array α) (w : World) (hs : d0.size = d.size) (S : SWK enc k w0 blk off d w) (ham : a < m) (hmb : m < b) (hb : b ≤ d.size) (hsz : d.size < 1152921504606846976) (hs1 : SortedIn (ltOf cf) a m d) (hs2 : SortedIn (ltOf cf) m b d) (hone : ¬ m - a = 1) (htwo : ¬ b - m = 1)
    (ih : ∀ (a' m' b' : Nat) (d' : Array α) (w' : World), b' - a' < b - a → d0.size = d'.size → SWK enc k w0 blk off d' w' → a' < m' → m' < b' → b' ≤ d'.size → d'.size < 1152921504606846976 → SortedIn (ltOf cf) a' m' d' → SortedIn (ltOf cf) m' b' d' →
      Calls P 31 #[.slice (some ⟨blk, off, none⟩) d'.size cap, .int .i64 a', .int .i64 m', .int .i64 b', .func (.func g) #[] cb] w' fun e w'' => e = .returned (.tuple #[]) ∧ ∃ d'', PermIn a' b' d' d'' ∧ SortedIn (ltOf cf) a' b' d'' ∧ SWK enc k w0 blk off d'' w'') :
    Calls P 31 #[.slice (some ⟨blk, off, none⟩) d.size cap, .int .i64 a, .int .i64 m, .int .i64 b, .func (.func g) #[] cb] w fun e w' => e = .returned (.tuple #[]) ∧ ∃ d', PermIn a b d d' ∧ SortedIn (ltOf cf) a b d' ∧ SWK enc k w0 blk off d' w' := by
  have mixed := L.mixed; have t0 := L.t0; have a0 := L.a0; have z0 := L.z0; have v0 := L.v0; have t3 := L.t3; have a3 := L.a3; have z3 := L.z3; have v3 := L.v3; have t4 := L.t4; have a4 := L.a4; have z4 := L.z4; have v4 := L.v4; have t22 := L.t22; have a22 := L.a22; have z22 := L.z22; have v22 := L.v22; have t50 := L.t50; have a50 := L.a50; have z50 := L.z50; have v50 := L.v50; have t60 := L.t60; have a60 := L.a60; have z60 := L.z60; have v60 := L.v60
  have FG := L.f_symMergeCmpFunc
  have HC : Aside _ := hcmp
  clear hcmp
  have S0 : Aside (SWK enc k w0 blk off d w) := S
  have Q1 : Hid (SortedIn (ltOf cf) a m d) := hs1
  have Q2 : Hid (SortedIn (ltOf cf) m b d) := hs2
  clear S hs1 hs2
  have h1b : ((m : Int) - (a : Int) == 1) = false := by simp; omega
  have h2b : ((b : Int) - (m : Int) == 1) = false := by simp; omega
  have IH : Aside _ := ih
  clear ih
  have eR : ∀ args w, (callFunc 34 args).run P w = .ok (.enter 34 args) w := enters_of L.f_rotateCmpFunc (by rfl) rfl
  have eM : ∀ args w, (callFunc 31 args).run P w = .ok (.enter 31 args) w := enters_of L.f_symMergeCmpFunc (by rfl) rfl
  go_enter FG, Try.ntmps31
  have h1z : ¬ ((m : Int) - (a : Int) = 1) := by omega
  have h2z : ¬ ((b : Int) - (m : Int) = 1) := by omega
  obtain ⟨mid, hmid⟩ : ∃ mid, mid = (a + b) / 2 := ⟨_, rfl⟩
  have hmz : ((a : Int) + (b : Int)) / 2 = (mid : Int) := by omega
  have hm1 : a < mid := by omega
  have hm2 : mid < b := by omega
  obtain ⟨n, hn⟩ : ∃ n, n = mid + m := ⟨_, rfl⟩
  have hnz : (mid : Int) + (m : Int) = (n : Int) := by omega
  have hn1 : 0 < n := by omega
  obtain ⟨pp, hpp⟩ : ∃ pp, pp + 1 = n := ⟨n - 1, by omega⟩
  have hpz : (n : Int) - 1 = (pp : Int) := by omega
  have HPP : Hid (pp + 1 = n) := hpp
  clear hpp
  have HMID : Hid (mid = (a + b) / 2) := hmid
  have HNN : Hid (n = mid + m) := hn
  clear hmid hn
  go_upto_if 140 with fail
  go_cut [20, 21] from 25 (fun s1 s2 wc => ∃ lo0 hi0 : Nat, s1 = .int .i64 lo0 ∧ s2 = .int .i64 hi0 ∧ Hid (MidB a m b n lo0 hi0) ∧ Aside (SWK enc k w0 blk off d wc))
  case first =>
    as_aux_lemma =>
      by_cases hgt : mid < m
      · have hgz : (m : Int) > (mid : Int) := by omega
        have hnb : (n : Int) - (b : Int) = ((n - b : Nat) : Int) := by have := HNN.out; have := HMID.out; omega
        go_wp2_with fail
        go_meet
        case rel => exact ⟨n - b, mid, rfl, rfl, ⟨by rw [HNN.out, HMID.out], ham, hmb, Or.inr ⟨by rw [← HMID.out]; exact hgt, rfl, HMID.out⟩⟩, S0⟩
      · have hgz : ¬ ((m : Int) > (mid : Int)) := by omega
        go_wp2_with fail
        go_meet
        case rel => exact ⟨a, m, rfl, rfl, ⟨by rw [HNN.out, HMID.out], ham, hmb, Or.inl ⟨by rw [← HMID.out]; omega, rfl, rfl⟩⟩, S0⟩
  case rest =>
    as_aux_lemma =>
      clear S0
      obtain ⟨lo0, hi0, rfl, rfl, HB, S0⟩ := hcut
      obtain ⟨hle1, hle2, hle3, _⟩ := HB.out.le
      go_wp2
      go_loopg [20, 21] (hi0 - lo0) (fun kx vi vj wr => ∃ (i j : Nat), vi = .int .i64 i ∧ vj = .int .i64 j ∧ lo0 ≤ i ∧ i ≤ j ∧ j ≤ hi0 ∧ j - i ≤ kx ∧ Hid (FindM (ltOf cf) d n lo0 hi0 i j) ∧ Aside (SWK enc k w0 blk off d wr))
      case atStart => exact ⟨lo0, hi0, rfl, rfl, by omega, by omega, by omega, by omega, FindM.start d n hle2, S0⟩
      case round =>
        clear S0
        obtain ⟨i, j, rfl, rfl, hmi, hij, hjb, hkx, HF, S1⟩ := hrel
        by_cases hlt : i < j
        · have hltz : (i : Int) < (j : Int) := by omega
          obtain ⟨h, hh⟩ : ∃ h, h = (i + j) / 2 := ⟨_, rfl⟩
          have hz : ((i : Int) + (j : Int)) / 2 = (h : Int) := by omega
          have hb1 : i ≤ h := by omega
          have hb2 : h < j := by omega
          have HH : Hid (h = (i + j) / 2) := hh
          clear hh
          obtain ⟨q1, q2, q3, q4⟩ := HB.out.pair (c := h) (by omega) (by omega)
          obtain ⟨xi, hx⟩ : ∃ x, x = n - 1 - h := ⟨_, rfl⟩
          rw [← hx] at q3 q4
          have hxz : IntKind.i64.wrap ((pp : Int) - (h : Int)) = (xi : Int) := by have := HPP.out; rw [IntKind.wrap_i64]; omega
          have hxy : (pp : Int) - (h : Int) = (xi : Int) := by have := HPP.out; omega
          have HX : Hid (xi = n - 1 - h) := hx
          clear hx
          cases hlv : ltOf cf d[xi]! d[h]! with
          | true =>
            have HL : Hid (ltOf cf d[xi]! d[h]! = true) := hlv
            clear hlv
            have eA7 : ((xi : Int)).toNat = xi := by omega
            have pA7 : (0 : Int) ≤ (xi : Int) := by omega
            have bA7 : (xi : Int) < (d.size : Int) := by omega
            have rA7 : IntKind.i64.wrap ((xi : Int)) = (xi : Int) := by rw [IntKind.wrap_i64]; omega
            have eB7 : ((h : Int)).toNat = h := by omega
            have pB7 : (0 : Int) ≤ (h : Int) := by omega
            have bB7 : (h : Int) < (d.size : Int) := by omega
            have rB7 : IntKind.i64.wrap ((h : Int)) = (h : Int) := by rw [IntKind.wrap_i64]; omega
            obtain ⟨x7, hx7⟩ : ∃ x, x = d[xi]! := ⟨_, rfl⟩
            obtain ⟨y7, hy7⟩ : ∃ x, x = d[h]! := ⟨_, rfl⟩
            have l7a := S1.out.ld R (by omega) P (xi) (by omega)
            have l7b := S1.out.ld R (by omega) P (h) (by omega)
            rw [← hx7] at l7a
            rw [← hy7] at l7b
            have hc7 := S1.out.cmp HC.out (by omega) x7 y7
            have hv7 : cf x7 y7 < 0 := by rw [hx7, hy7]; exact of_decide_eq_true HL.out
            have hd7 : decide (cf x7 y7 < 0) = true := decide_eq_true hv7
            clear hx7 hy7
            go_wp2_with fail
            go_quiet_grown (first | (go_at_fn g; refine Calls.grown_of (hc7 _ _)))
            have S2 : Aside (SWK enc k w0 blk off (d) (grow (wr.drewN nq) osq)) := S1.out.grown nq osq
            clear l7a l7b hc7 S1
            generalize grow (wr.drewN nq) osq = w2 at S2 ⊢
            clear nq osq
            go_wp2
            go_roundg (h - i)
            case measure => omega
            case rel => exact ⟨i, h, rfl, rfl, by omega, by omega, by omega, by omega, HF.out.down hO HB.out Q1.out Q2.out hb1 hb2 (by rw [← HX.out]; exact HL.out), S2⟩
          | false =>
            have HL : Hid (ltOf cf d[xi]! d[h]! = false) := hlv
            clear hlv
            have eA8 : ((xi : Int)).toNat = xi := by omega
            have pA8 : (0 : Int) ≤ (xi : Int) := by omega
            have bA8 : (xi : Int) < (d.size : Int) := by omega
            have rA8 : IntKind.i64.wrap ((xi : Int)) = (xi : Int) := by rw [IntKind.wrap_i64]; omega
            have eB8 : ((h : Int)).toNat = h := by omega
            have pB8 : (0 : Int) ≤ (h : Int) := by omega
            have bB8 : (h : Int) < (d.size : Int) := by omega
            have rB8 : IntKind.i64.wrap ((h : Int)) = (h : Int) := by rw [IntKind.wrap_i64]; omega
            obtain ⟨x8, hx8⟩ : ∃ x, x = d[xi]! := ⟨_, rfl⟩
            obtain ⟨y8, hy8⟩ : ∃ x, x = d[h]! := ⟨_, rfl⟩
            have l8a := S1.out.ld R (by omega) P (xi) (by omega)
            have l8b := S1.out.ld R (by omega) P (h) (by omega)
            rw [← hx8] at l8a
            rw [← hy8] at l8b
            have hc8 := S1.out.cmp HC.out (by omega) x8 y8
            have hv8 : ¬ cf x8 y8 < 0 := by rw [hx8, hy8]; exact of_decide_eq_false HL.out
            have hd8 : decide (cf x8 y8 < 0) = false := decide_eq_false hv8
            clear hx8 hy8
            go_wp2_with fail
            go_quiet_grown (first | (go_at_fn g; refine Calls.grown_of (hc8 _ _)))
            have S2 : Aside (SWK enc k w0 blk off (d) (grow (wr.drewN nq) osq)) := S1.out.grown nq osq
            clear l8a l8b hc8 S1
            generalize grow (wr.drewN nq) osq = w2 at S2 ⊢
            clear nq osq
            go_wp2
            go_roundg (j - (h + 1))
            case measure => omega
            case rel => exact ⟨h + 1, j, by simp, rfl, by omega, by omega, by omega, by omega, HF.out.up hO HB.out Q1.out Q2.out hb1 hb2 (by rw [← HX.out]; exact HL.out), S2⟩
        · have hltz : ¬ (i : Int) < (j : Int) := by omega
          have hji : j = i := by omega
          subst hji
          obtain ⟨f1, f2, f3, f4, f5, f6, f7⟩ := HB.out.fit hmi hjb
          rw [← HMID.out] at f3 f6
          obtain ⟨e, he⟩ : ∃ e, e = n - j := ⟨_, rfl⟩
          have hez : (n : Int) - (j : Int) = (e : Int) := by omega
          rw [← he] at f4 f5 f6
          have HE : Hid (e = n - j) := he
          clear he
          go_upto_region 39 with fail
          go_cut [185] from 25 (fun v wx => ∃ t : Bool, v = .bool t ∧ Hid (t = true ↔ j < m ∧ m < e) ∧ Aside (SWK enc k w0 blk off d wx))
          case first =>
            as_aux_lemma =>
              by_cases c1 : j < m
              · have c1z : (j : Int) < (m : Int) := by omega
                by_cases c2 : m < e
                · have c2z : (m : Int) < (e : Int) := by omega
                  go_wp2_with fail
                  go_meet
                  case rel => exact ⟨true, rfl, ⟨fun _ => ⟨c1, c2⟩, fun _ => rfl⟩, S1⟩
                · have c2z : ¬ (m : Int) < (e : Int) := by omega
                  go_wp2_with fail
                  go_meet
                  case rel => exact ⟨false, rfl, ⟨fun h => absurd h (by decide), fun h => absurd h.2 c2⟩, S1⟩
              · have c1z : ¬ (j : Int) < (m : Int) := by omega
                go_wp2_with fail
                go_meet
                case rel => exact ⟨false, rfl, ⟨fun h => absurd h (by decide), fun h => absurd h.1 c1⟩, S1⟩
          case rest =>
            as_aux_lemma =>
              clear S1
              obtain ⟨t, rfl, HT, S1⟩ := hcut
              go_upto_if 185 with fail
              go_cut [] from 25 (fun wx => ∃ d1, Hid (Turned d j m e d1) ∧ Aside (SWK enc k w0 blk off d1 wx))
              case first =>
                as_aux_lemma =>
                  cases t
                  · have hno : ¬ (j < m ∧ m < e) := fun h => absurd (HT.out.2 h) (by decide)
                    go_wp2_with fail
                    go_meet
                    case rel => exact ⟨d, Turned.none d f2 f4 (by omega), S1⟩
                  · obtain ⟨c1, c2⟩ := HT.out.1 rfl
                    have hc := stab_rotate L k aE zE enc g cb blk off cap j m e d0 d w0 wc R hs S1.out c1 c2 (by omega) (by omega)
                    go_wp2_with (go_at_fn 34; refine hc.mono ?_; rintro e w1 ⟨rfl, d1, hd1, hw1⟩)
                    go_meet
                    case rel => exact ⟨d1, hd1, hw1⟩
              case rest =>
                as_aux_lemma =>
                  clear S1 HT
                  obtain ⟨d1, HTu, S1⟩ := hcut
                  have HH : Hid (Halves (ltOf cf) a b j mid e d1) := by
                    have h := HTu.out
                    rw [HE.out] at h
                    have := FindM.halves hO HF.out HB.out Q1.out Q2.out h
                    rw [HE.out, HMID.out]
                    exact this
                  have hz1 : d1.size = d.size := HTu.out.perm.1
                  have P1 : Hid (PermIn a b d d1) := permIn_mono _ _ j e a b f1 f5 hb HTu.out.perm
                  clear HTu HF
                  go_upto_region 41 with fail
                  go_cut [199] from 25 (fun v wx => ∃ t : Bool, v = .bool t ∧ Hid (t = true ↔ a < j ∧ j < mid) ∧ Aside (SWK enc k w0 blk off d1 wx))
                  case first =>
                    as_aux_lemma =>
                      by_cases c1 : a < j
                      · have c1z : (a : Int) < (j : Int) := by omega
                        by_cases c2 : j < mid
                        · have c2z : (j : Int) < (mid : Int) := by omega
                          go_wp2_with fail
                          go_meet
                          case rel => exact ⟨true, rfl, ⟨fun _ => ⟨c1, c2⟩, fun _ => rfl⟩, S1⟩
                        · have c2z : ¬ (j : Int) < (mid : Int) := by omega
                          go_wp2_with fail
                          go_meet
                          case rel => exact ⟨false, rfl, ⟨fun h => absurd h (by decide), fun h => absurd h.2 c2⟩, S1⟩
                      · have c1z : ¬ (a : Int) < (j : Int) := by omega
                        go_wp2_with fail
                        go_meet
                        case rel => exact ⟨false, rfl, ⟨fun h => absurd h (by decide), fun h => absurd h.1 c1⟩, S1⟩
                  case rest =>
                    as_aux_lemma =>
                      clear S1
                      obtain ⟨t, rfl, HT, S1⟩ := hcut
                      go_upto_if 199 with fail
                      go_cut [] from 25 (fun wx => ∃ d2, Hid (PermIn a mid d1 d2 ∧ SortedIn (ltOf cf) a mid d2) ∧ Aside (SWK enc k w0 blk off d2 wx))
                      case first =>
                        as_aux_lemma =>
                          cases t
                          · have hno : ¬ (a < j ∧ j < mid) := fun h => absurd (HT.out.2 h) (by decide)
                            go_wp2_with fail
                            go_meet
                            case rel => exact ⟨d1, ⟨permIn_refl _ _ _, HH.out.left hno⟩, S1⟩
                          · obtain ⟨c1, c2⟩ := HT.out.1 rfl
                            have hc := IH.out a j mid d1 wc (by omega) (by omega) S1.out c1 c2 (by omega) (by omega) HH.out.r1 HH.out.r2
                            rw [hz1] at hc
                            go_wp2_with (go_at_fn 31; refine hc.mono ?_; rintro e w1 ⟨rfl, d2, hd2, hd3, hw1⟩)
                            go_meet
                            case rel => exact ⟨d2, ⟨hd2, hd3⟩, hw1⟩
                      case rest =>
                        as_aux_lemma =>
                          clear S1 HT
                          obtain ⟨d2, H2, S1⟩ := hcut
                          have hz2 : d2.size = d.size := H2.out.1.1.trans hz1
                          go_upto_region 43 with fail
                          go_cut [213] from 25 (fun v wx => ∃ t : Bool, v = .bool t ∧ Hid (t = true ↔ mid < e ∧ e < b) ∧ Aside (SWK enc k w0 blk off d2 wx))
                          case first =>
                            as_aux_lemma =>
                              by_cases c1 : mid < e
                              · have c1z : (mid : Int) < (e : Int) := by omega
                                by_cases c2 : e < b
                                · have c2z : (e : Int) < (b : Int) := by omega
                                  go_wp2_with fail
                                  go_meet
                                  case rel => exact ⟨true, rfl, ⟨fun _ => ⟨c1, c2⟩, fun _ => rfl⟩, S1⟩
                                · have c2z : ¬ (e : Int) < (b : Int) := by omega
                                  go_wp2_with fail
                                  go_meet
                                  case rel => exact ⟨false, rfl, ⟨fun h => absurd h (by decide), fun h => absurd h.2 c2⟩, S1⟩
                              · have c1z : ¬ (mid : Int) < (e : Int) := by omega
                                go_wp2_with fail
                                go_meet
                                case rel => exact ⟨false, rfl, ⟨fun h => absurd h (by decide), fun h => absurd h.1 c1⟩, S1⟩
                          case rest =>
                            as_aux_lemma =>
                              clear S1
                              obtain ⟨t, rfl, HT, S1⟩ := hcut
                              cases t
                              · have hno : ¬ (mid < e ∧ e < b) := fun h => absurd (HT.out.2 h) (by decide)
                                go_wp2
                                go_end0
                                have := HH.out.done (by omega) H2.out.1 H2.out.2 (permIn_refl _ _ _) (HH.out.right H2.out.1 hno)
                                exact ⟨rfl, d2, permIn_trans _ _ _ _ _ P1.out this.1, this.2, S1.out⟩
                              · obtain ⟨c1, c2⟩ := HT.out.1 rfl
                                have hp := HH.out.parts H2.out.1
                                have hc := IH.out mid e b d2 wc (by omega) (by omega) S1.out c1 c2 (by omega) (by omega) hp.1 hp.2
                                rw [hz2] at hc
                                clear hp
                                go_wp2_with (go_at_fn 31; refine hc.mono ?_; rintro e w1 ⟨rfl, d3, hd2, hd3, hw1⟩)
                                go_end0
                                have := HH.out.done (by omega) H2.out.1 H2.out.2 hd2 hd3
                                exact ⟨rfl, d3, permIn_trans _ _ _ _ _ P1.out this.1, this.2, hw1⟩
            end Go.Proofs.Ytigifbijmchdcaa
