/- Texts of ours put together: PathRef. -/
import Derived.Below
import Derived.BigQuiet
import Derived.ChangeSlices
import Derived.Deep.Draws
import Derived.Deep.OwnRows
import Derived.Deep.QuietTactic
import Derived.Laws.AppendOwn
import Derived.Laws.BitsAllLaws
import Derived.Lib.BitFns
import Derived.Lib.Hide
import Derived.OpenShut
import Derived.OwnWalk
import Derived.ProofKit
import Derived.RowKit3
import Derived.Shelf.Strconv.Itoa0
import Derived.SizedLaws
import Derived.WalkKit
import Derived.Test.YtmageeohnfomnaaGreatProg
import Derived.Test.YtmageeohnfomnaaGreatG2
import Derived.Test.YtmageeohnfomnaaGreatG1
import Derived.Test.YtmageeohnfomnaaGreatG9
import Derived.Test.YtmageeohnfomnaaGreatG12
import Derived.Test.YtmageeohnfomnaaGreatG28
namespace Go.Proofs.YtmageeohnfomnaaGreat
set_option maxRecDepth 100000
open Go.RowKit Go.Shelf Go.ChangeShapes Go.WideShapes Go.ChangeAt

def Rt (n : Int) (c : Nat) : Prop := c ≤ 10 ∧ ∀ d, d < c → ((2 ^ d : Nat) : Int) < n
theorem Rt.next {n : Int} {c : Nat} (h : Rt n c) (h1 : ((2 ^ c : Nat) : Int) < n) (h2 : 2 ^ c < 1024) : Rt n (c + 1) := by
  have hc : c < 10 := by
    rcases Nat.lt_or_ge c 10 with h3 | h3
    · exact h3
    · have : 2 ^ 10 ≤ 2 ^ c := Nat.pow_le_pow_right (by decide) h3
      omega
  refine ⟨hc, fun d hd => ?_⟩
  by_cases e : d = c
  · subst e; exact h1
  · exact h.2 d (by omega)
theorem Rt.done {n : Int} {c : Nat} (h : Rt n c) (he : ¬ (((2 ^ c : Nat) : Int) < n ∧ 2 ^ c < 1024)) : (((2 ^ c : Nat) : Int) == n) = isTree n := by
  cases hn : isTree n
  · rw [beq_eq_false_iff_ne]
    intro e
    have : isTree n = true := (isTree_iff n).2 ⟨c, h.1, e.symm⟩
    rw [hn] at this; cases this
  · obtain ⟨p, hp, rfl⟩ := (isTree_iff n).1 hn
    have hcp : c = p := by
      rcases Nat.lt_trichotomy c p with h1 | h1 | h1
      · exfalso
        have h2 : 2 ^ c < 2 ^ p := Nat.pow_lt_pow_right (by decide) h1
        have h3 := tree_le p hp
        exact he ⟨by omega, by omega⟩
      · exact h1
      · have := h.2 p h1
        omega
    rw [hcp]; simp
set_option maxRecDepth 100000 in
set_option maxHeartbeats 1000000 in
theorem rpath_right (n : Int) (w : World) : Calls Tryz.prog 32 #[.int .i64 n] w fun e w' => e = .returned (.bool (isTree n)) ∧ w' = w := by
  go_enter Tryz.func32, Tryz.ntmps32
  go_wp2_with fail
  go_loopw [3] (fun v wr => ∃ c : Nat, v = .int .i64 (2 ^ c : Nat) ∧ Rt n c ∧ wr = w) (fun v _ => 4096 - (intOf v).toNat)
  case atStart => exact ⟨0, rfl, ⟨by omega, fun d hd => by omega⟩, rfl⟩
  case round =>
    obtain ⟨c, rfl, hR, rfl⟩ := hrel
    have hc2 := tree_le c hR.1
    have hc0 := two_pow_pos c
    have hnx := hR.next
    have hdn := hR.done
    have hps : 2 ^ (c + 1) = 2 * 2 ^ c := by rw [Nat.pow_succ, Nat.mul_comm]
    have HX := Lib.hid hnx
    have HD := Lib.hid hdn
    have HP := Lib.hid hps
    clear hR hnx hdn hps
    generalize 2 ^ c = k at *
    by_cases h1 : (k : Int) < n
    · by_cases h2 : k < 1024
      · go_wp2_with fail
        go_roundw
        case rel => exact ⟨c + 1, by rw [HP.out]; go_num, HX.out h1 h2, trivial⟩
        case measure => simp [intOf]; omega
      · have hd := HD.out (fun h => h2 h.2)
        go_wp2_with fail
        go_ret
        exact ⟨by rw [← hd]; rfl, rfl⟩
    · have hd := HD.out (fun h => h1 h.1)
      go_wp2_with fail
      go_ret
      exact ⟨by rw [← hd]; rfl, rfl⟩
theorem half_pow (c : Nat) : (2 : Nat) ^ (c + 1) / 2 = 2 ^ c := by rw [Nat.pow_succ, Nat.mul_div_cancel _ (by decide)]
set_option maxHeartbeats 1000000 in
theorem rpath_depth (n : Int) (w : World) : Calls Tryz.prog 61 #[.int .i64 n] w fun e w' => e = .returned (.int .i64 (dpt n : Nat)) ∧ w' = w := by
  cases ht : isTree n
  · rw [dpt_no ht]
    go_enter Tryz.func61, Tryz.ntmps61
    go_wp2_with fail
    refine (rpath_right n _).mono ?_
    rintro e w1 ⟨rfl, rfl⟩
    rw [ht]
    go_wp2_with fail
    go_ret
    exact ⟨rfl, rfl⟩
  · obtain ⟨D, hD, hn⟩ := (isTree_iff n).1 ht
    have hd : dpt n = D := by rw [hn]; exact dpt_two hD rfl
    rw [hd]
    clear hd
    have HN := Lib.hid hn
    clear hn
    go_enter Tryz.func61, Tryz.ntmps61
    go_wp2_with fail
    refine (rpath_right n _).mono ?_
    rintro e w1 ⟨rfl, rfl⟩
    rw [ht]
    clear ht
    go_wp2_with fail
    go_loopw [0, 3] (fun v0 v3 wr => ∃ c : Nat, v0 = .int .i64 (2 ^ (D - c) : Nat) ∧ v3 = .int .i64 c ∧ c ≤ D ∧ wr = w1) (fun _ v3 _ => D - (intOf v3).toNat)
    case atStart => exact ⟨0, by rw [HN.out]; rfl, rfl, by omega, rfl⟩
    case round =>
      obtain ⟨c, rfl, rfl, hc, rfl⟩ := hrel
      by_cases hlt : c < D
      · have e1 : D - c = (D - (c + 1)) + 1 := by omega
        have hh := half_pow (D - (c + 1))
        rw [← e1] at hh
        have h1 := tree_le (D - c) (by omega)
        have h2 : 2 ^ (D - c) = 2 * 2 ^ (D - (c + 1)) := by rw [e1, Nat.pow_succ, Nat.mul_comm]
        have h3 := two_pow_pos (D - (c + 1))
        have HH := Lib.hid hh
        clear hh e1
        generalize 2 ^ (D - c) = x at *
        generalize hy : 2 ^ (D - (c + 1)) = y at *
        have HY := Lib.hid hy
        clear hy
        go_wp2_with fail
        go_roundw
        case rel => exact ⟨c + 1, by rw [HY.out, ← HH.out], by go_num, by omega, trivial⟩
        case measure => simp [intOf]; omega
      · obtain rfl : c = D := by omega
        have e1 : 2 ^ (c - c) = 1 := by rw [Nat.sub_self]
        rw [e1]
        go_wp2_with fail
        go_ret
        exact ⟨rfl, rfl⟩
theorem rpath_nodes (n : Int) (w : World) : Calls Tryz.prog 25 #[.int .i64 n] w fun e w' => e = .returned (.int .i64 (ndsI n)) ∧ w' = w := by
  cases ht : isTree n
  · rw [ndsI_no ht]
    go_enter Tryz.func25, Tryz.ntmps25
    go_wp2_with fail
    refine (rpath_right n _).mono ?_
    rintro e w1 ⟨rfl, rfl⟩
    rw [ht]
    go_wp2_with fail
    go_ret
    exact ⟨rfl, rfl⟩
  · have hr := isTree_rng ht
    rw [ndsI_yes ht]
    go_enter Tryz.func25, Tryz.ntmps25
    go_wp2_with fail
    refine (rpath_right n _).mono ?_
    rintro e w1 ⟨rfl, rfl⟩
    rw [ht]
    go_wp2_with fail
    go_ret
    exact ⟨rfl, rfl⟩
def RwAt (w : World) (D l c : Nat) (v : Value) (wr : World) : Prop :=
  ∃ g cap, v = .slice (some ⟨g, 0, none⟩) (D - c + 1) cap ∧ D - c + 1 ≤ cap ∧ Ir wr w.heap.size g (D - c + 1) (fun k => (nd D l (c + k) : Int)) ∧ Below w.heap.size w wr
theorem own_ir {w : World} {base n cap : Nat} {A : Option Addr} {l : List Int} (h : w.ownsRow base 3 1 (.slice A n cap) n (irow l)) (hl : l.length = n) (h0 : 0 < n) (z : Nat → Int) (hz : ∀ j, (hj : j < l.length) → l[j] = z j) :
    ∃ g, A = some ⟨g, 0, none⟩ ∧ n ≤ cap ∧ Ir w base g n z := by
  have h' := h
  rcases h.2 with ⟨e, h1⟩ | ⟨g, cap', cur, e, hb, hg, hn, _⟩
  · omega
  · injection e with e1 e2 e3
    subst e1 e3
    refine ⟨g, rfl, hn, hb, (Array.getElem?_eq_some_iff.1 hg).1, fun j hj => ?_⟩
    have := h'.cells (g := g) rfl j _ (irow_at l j (by omega))
    rw [add_plain, Nat.zero_add, hz j (by omega)] at this
    exact this
theorem own_int (w : World) (base : Nat) (hb : base ≤ w.heap.size) (m : Int) : (w.alloc (.cells #[.int .i64 m] 3)).ownsRow base 3 1 (.slice (some ⟨w.heap.size, 0, none⟩) 1 1) 1 (irow [m]) :=
  ⟨rfl, .inr ⟨w.heap.size, 1, #[.int .i64 m], rfl, hb, Go.Deep.blk_alloc_new _ _, Nat.le_refl _, by unfold maxLen; omega, rfl, rfl⟩⟩
def tailI (D l c : Nat) : List Int := (List.range (D - c + 1)).map fun k => (nd D l (c + k) : Int)
theorem tailI_len (D l c : Nat) : (tailI D l c).length = D - c + 1 := by simp [tailI]
theorem tailI_at (D l c j : Nat) (h : j < (tailI D l c).length) : (tailI D l c)[j] = (nd D l (c + j) : Int) := by simp [tailI]
theorem tailI_down (D l c : Nat) (h : c < D) : tailI D l c = [(nd D l c : Int)] ++ tailI D l (c + 1) := by
  unfold tailI
  rw [show D - c + 1 = (D - (c + 1) + 1) + 1 by omega, List.range_succ_eq_map, List.map_cons, List.map_map]
  show _ :: _ = _ :: _
  rw [Nat.add_zero]
  congr 1
  apply List.map_congr_left
  intro k _
  show ((nd D l (c + (k + 1)) : Nat) : Int) = _
  rw [show c + (k + 1) = c + 1 + k by omega]
theorem RwAt.start (w : World) (D l : Nat) : RwAt w D l D (.slice (some ⟨w.heap.size, 0, none⟩) 1 1) (w.alloc (.cells #[.int .i64 (nd D l D : Nat)] 3)) := by
  obtain ⟨g, e, hc, hi⟩ := own_ir (own_int w w.heap.size (Nat.le_refl _) (nd D l D : Nat)) rfl (by decide) (fun k => (nd D l (D + k) : Int)) (fun j hj => by
    have : j = 0 := by simp at hj; exact hj
    subst this; rfl)
  injection e with e
  injection e with e
  subst e
  have e1 : D - D + 1 = 1 := by omega
  refine ⟨_, 1, by rw [e1], by omega, by rw [e1]; exact hi, (Below.refl _ w).alloc (Nat.le_refl _) _⟩
theorem RwAt.next {w wr w7 : World} {D l c g cap : Nat} {A : Option Addr} (hc : c < D) (hb : Below w.heap.size w wr)
    (ho : w7.ownsRow w.heap.size 3 1 (.slice A (1 + (D - (c + 1) + 1)) cap) (1 + (D - (c + 1) + 1)) (irow [(nd D l c : Int)] ++ irow (tailI D l (c + 1))))
    (hg : (wr.alloc (.cells #[.int .i64 (nd D l c : Nat)] 3)).grownBy w7 (Value.slice (some ⟨wr.heap.size, 0, none⟩) 1 g).ownBlock) : RwAt w D l c (.slice A (1 + (D - (c + 1) + 1)) cap) w7 := by
  have e : 1 + (D - (c + 1) + 1) = D - c + 1 := by omega
  rw [← irow_append, ← tailI_down D l c hc, e] at ho
  obtain ⟨g', rfl, h1, h2⟩ := own_ir ho (tailI_len D l c) (by omega) (fun k => (nd D l (c + k) : Int)) (tailI_at D l c)
  refine ⟨g', cap, by rw [e], h1, h2, ?_⟩
  refine (hb.alloc hb.size _).grown hg (by have := hb.size; simp; omega) (fun b e => ?_)
  obtain rfl : wr.heap.size = b := by simpa [Value.ownBlock] using e
  exact hb.size
set_option maxRecDepth 100000 in
set_option maxHeartbeats 1000000 in
theorem rway_in (D N l : Nat) (w : World) (hD : D ≤ 10) (hN : 2 ^ D = N) (hl : l < N) :
    Calls Tryz.prog 65 #[.int .i64 (N : Int), .int .i64 (l : Int)] w (WayPost w D l) := by
  have hN1 : N ≤ 1024 := by rw [← hN]; exact tree_le D hD
  have ht := isTree_two hD hN
  have HN := Lib.hid hN
  have hla := nd_last D l
  rw [hN] at hla
  have HL := Lib.hid hla
  clear hN hla
  have g1 : decide ((N : Int) ≤ (l : Int)) = false := by simp; omega
  have g2 : decide (N ≤ l) = false := by simp; omega
  go_enter Tryz.func65, Tryz.ntmps65
  go_wp2_with fail
  refine (rpath_right (N : Int) _).mono ?_
  rintro e w1 ⟨rfl, rfl⟩
  rw [ht]
  have hst := RwAt.start w1 D l
  have hs : (N : Int) - 1 + (l : Int) = (nd D l D : Nat) := by rw [HL.out]; omega
  have hs2 : (nd D l D : Nat) ≤ 2048 := by rw [HL.out]; omega
  have HS := Lib.hid hst
  clear hst ht
  obtain ⟨m0, hm0⟩ : ∃ m, m = nd D l D := ⟨_, rfl⟩
  rw [← hm0] at HS hs hs2
  have HM0 := Lib.hid hm0
  clear hm0
  go_wp2_with fail
  go_loopw [5, 6] (fun v5 v6 wr => ∃ c : Nat, v5 = .int .i64 (nd D l c : Nat) ∧ c ≤ D ∧ RwAt w1 D l c v6 wr) (fun v5 _ _ => (intOf v5).toNat)
  case atStart => exact ⟨D, by rw [← HM0.out], Nat.le_refl _, HS.out⟩
  case round =>
    obtain ⟨c, rfl, hc, hS⟩ := hrel
    clear HS hs hs2 HM0
    cases c with
    | zero =>
      have h0 := nd_zero D l (by rw [HN.out]; exact hl)
      rw [h0]
      obtain ⟨g, cap, rfl, h1, h2, h3⟩ := hS
      have HP : Hid (WayPost w1 D l (.returned (.slice (some ⟨g, 0, none⟩) (D - 0 + 1) cap)) wr) := ⟨g, cap, rfl, h1, by simpa using h2, h3⟩
      clear h2
      go_wp2_with fail
      go_ret
      exact HP.out
    | succ c =>
      have hup := nd_up D l c (by omega)
      have hge := nd_ge D l (c + 1)
      have h2c : 2 ≤ 2 ^ (c + 1) := by have := two_pow_pos c; rw [Nat.pow_succ]; omega
      have hin := nd_in D l (c + 1) hc (by rw [HN.out]; exact hl)
      rw [HN.out] at hin
      obtain ⟨g, cap, rfl, h1, h2, h3⟩ := hS
      have hsz := h3.size
      have H2 := Lib.hid h2
      have H3 := Lib.hid h3
      have hpos : 0 < nd D l (c + 1) := by omega
      have HU := Lib.hid hup
      have HX := Lib.hid (fun (w7 : World) (g cap : Nat) (A : Option Addr) => RwAt.next (w := w1) (wr := wr) (w7 := w7) (D := D) (l := l) (c := c) (g := g) (cap := cap) (A := A) (by omega) h3)
      clear h2 h3 hge h2c
      have hu1 : (nd D l c : Int) = ((nd D l (c + 1) : Int) - 1) / 2 := by omega
      clear hup
      obtain ⟨m, hm⟩ : ∃ m, m = nd D l (c + 1) := ⟨_, rfl⟩
      rw [← hm] at hu1 hpos hin ⊢
      rw [hu1] at HX
      have HU1 := Lib.hid hu1
      have HM := Lib.hid hm
      clear hm hu1
      have hown := own_int wr w1.heap.size hsz (((m : Int) - 1) / 2)
      have HO := Lib.hid hown
      clear hown
      go_wp2_with (at_builtin; refine wpList_append_where _ rfl (.tmp 31) (.tmp 32) 36 rfl w1.heap.size 3 (.int .i64 0) 1 8 Tryz.underlying36 infoI64 rfl (by decide) _ 1 (irow [((m : Int) - 1) / 2]) rfl HO.out ⟨g, 0, none⟩ (D - (c + 1) + 1) cap (irow (tailI D l (c + 1))) rfl ?c5 ?c0 (irow_one _) ?c2 ?c3 ?c4 ?_)
      case c5 => rw [irow_len, tailI_len, Nat.mul_one]
      case c0 =>
        intro j u hu
        have hj : j < (tailI D l (c + 1)).length := by have := (List.getElem?_eq_some_iff.1 hu).1; rwa [irow_len] at this
        rw [irow_at _ j hj, tailI_at] at hu
        rw [add_plain, Nat.zero_add]
        rw [tailI_len] at hj
        exact ((H2.out.alloc _).cell j hj).trans hu
      case c2 => simp only [maxLen]; omega
      case c3 => omega
      case c4 => simp; omega
      intro A2 cap2 w7 hown hgr _
      have HN2 := Lib.hid (HX.out w7 1 cap2 A2 hown hgr)
      clear hown hgr HX HO H2 H3
      go_wp2_with fail
      go_roundw
      case rel => exact ⟨c, by rw [HU1.out], by omega, HN2.out⟩
      case measure => simp [intOf]; omega
end Go.Proofs.YtmageeohnfomnaaGreat

