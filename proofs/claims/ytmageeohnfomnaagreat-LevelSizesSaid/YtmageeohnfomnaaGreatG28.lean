/- Texts of ours put together: Way. -/
import Derived.Below
import Derived.ChangeSlices
import Derived.Deep.Draws
import Derived.Deep.OwnRows
import Derived.Laws.AppendOwn
import Derived.Laws.BitsAllLaws
import Derived.Lib.BitFns
import Derived.Lib.Hide
import Derived.OpenShut
import Derived.ProofKit
import Derived.RowKit3
import Derived.Shelf.Strconv.Itoa0
import Derived.SizedLaws
import Derived.WalkKit
import Derived.Test.YtmageeohnfomnaaGreatProg
import Derived.Test.YtmageeohnfomnaaGreatG2
import Derived.Test.YtmageeohnfomnaaGreatG13
import Derived.Test.YtmageeohnfomnaaGreatG9
import Derived.Test.YtmageeohnfomnaaGreatG1
import Derived.Test.YtmageeohnfomnaaGreatG6
import Derived.Test.YtmageeohnfomnaaGreatG12
namespace Go.Proofs.YtmageeohnfomnaaGreat
set_option maxRecDepth 100000
open Go.RowKit Go.Shelf Go.ChangeShapes Go.WideShapes Go.ChangeAt

set_option maxHeartbeats 1000000 in
theorem node_no (n l k : Int) (w : World) (h0 : -9223372036854775808 ≤ n) (h1 : n ≤ 9223372036854775807) (h : ¬ (inT n l = true ∧ 0 ≤ k ∧ k ≤ dpt n)) :
    Calls Tryz.prog 78 #[.int .i64 n, .int .i64 l, .int .i64 k] w fun e w' => e = .returned (.int .i64 (-1)) ∧ w' = w := by
  go_enter Tryz.func78, Tryz.ntmps78
  go_wp2_with fail
  refine (path_depth n _ h0 h1).mono ?_
  rintro e w1 ⟨rfl, rfl⟩
  go_wp2_with fail
  refine (path_there n l _ h0 h1).mono ?_
  rintro e w2 ⟨rfl, rfl⟩
  cases ht : inT n l
  · clear h
    go_wp2_with fail
    go_ret
    exact ⟨rfl, rfl⟩
  · generalize dpt n = d at *
    by_cases hk : k < 0
    · clear h
      go_wp2_with fail
      go_ret
      exact ⟨rfl, rfl⟩
    · have hd : (d : Int) < k := by
        apply Int.not_le.1
        intro e
        exact h ⟨ht, by omega, e⟩
      clear h
      go_wp2_with fail
      go_ret
      exact ⟨rfl, rfl⟩
def wayI (D l i : Nat) : List Int := (List.range i).map fun k => (nd D l k : Int)
theorem wayI_succ (D l i : Nat) : wayI D l (i + 1) = wayI D l i ++ [(nd D l i : Int)] := by unfold wayI; rw [List.range_succ, List.map_append]; rfl
theorem wayI_len (D l i : Nat) : (wayI D l i).length = i := by simp [wayI]
def WayPost (w : World) (D l : Nat) (e : Ending) (w' : World) : Prop :=
  ∃ g cap, e = .returned (.slice (some ⟨g, 0, none⟩) (D + 1) cap) ∧ D + 1 ≤ cap ∧ Ir w' w.heap.size g (D + 1) (fun k => (nd D l k : Int)) ∧ Below w.heap.size w w'
theorem way_done {w wr : World} {v : Value} {D l : Nat} (h : IrAt w v (wayI D l (D + 1)) wr) : WayPost w D l (.returned v) wr := by
  obtain ⟨g, cap, rfl, hc, hi⟩ := h.out (by rw [wayI_len]; omega) (fun k => (nd D l k : Int)) (fun j hj => by simp [wayI])
  rw [wayI_len] at hc hi
  refine ⟨g, cap, by rw [wayI_len], hc, hi, h.below⟩
set_option maxRecDepth 100000 in
set_option maxHeartbeats 1000000 in
theorem way_in (D N l : Nat) (w : World) (hD : D ≤ 10) (hN : 2 ^ D = N) (hl : l < N) :
    Calls Tryz.prog 63 #[.int .i64 (N : Int), .int .i64 (l : Int)] w (WayPost w D l) := by
  have hN1 : N ≤ 1024 := by rw [← hN]; exact tree_le D hD
  have hd := dpt_two hD hN
  have ht := inT_yes hD hN hl
  have HN := Lib.hid hN
  clear hN
  go_enter Tryz.func63, Tryz.ntmps63
  go_wp2_with fail
  refine (path_there (N : Int) (l : Int) _ (by omega) (by omega)).mono ?_
  rintro e w1 ⟨rfl, rfl⟩
  rw [ht]
  go_wp2_with fail
  refine (path_depth (N : Int) _ (by omega) (by omega)).mono ?_
  rintro e w2 ⟨rfl, rfl⟩
  rw [hd]
  clear ht hd
  go_wp2_with fail
  go_loopw [5, 14] (fun v5 v wr => ∃ i : Nat, v = .int .i64 i ∧ i ≤ D + 1 ∧ IrAt w2 v5 (wayI D l i) wr) (fun _ v _ => D + 1 - (intOf v).toNat)
  case atStart => exact ⟨0, rfl, by omega, IrAt.nil w2⟩
  case round =>
    obtain ⟨i, rfl, hi, hE⟩ := hrel
    have HE := Lib.hid hE
    clear hE
    by_cases hlt : i < D + 1
    · have hsz := HE.out.below.size
      have HLE := Lib.hid (wayI_len D l i)
      have HOW : Hid (wr.ownsRow w2.heap.size 3 1 u5 i (irow (wayI D l i))) := by
        have := HE.out.own
        rwa [HLE.out] at this
      go_wp2_with fail
      with_reducible refine (node_in D N l i _ hD HN.out hl (by omega)).mono ?_
      rintro e w3 ⟨rfl, rfl⟩
      have HS := Lib.hid (wayI_succ D l i)
      generalize nd D l i = m at *
      go_wp2_with (with_reducible refine wpList_append_where _ rfl (.tmp 17) (.tmp 22) 36 rfl w2.heap.size 3 (.int .i64 0) 1 8 Tryz.underlying36 infoI64 rfl (by decide) u5 i (irow (wayI D l i)) rfl (HOW.out.alloc _) ⟨w3.heap.size, 0, none⟩ 1 1 (irow [(m : Int)]) rfl rfl ?c0 (irow_one _) ?c2 ?c3 ?c4 ?_)
      case c0 => exact irow_new w3 _ [(m : Int)] rfl
      case c2 => simp only [maxLen]; omega
      case c3 => omega
      case c4 => simp; omega
      intro A2 cap2 w7 hown hgr _
      have HN2 : Hid (IrAt w2 (.slice A2 (i + 1) cap2) (wayI D l (i + 1)) w7) := by
        have h := HE.out.next (m := [(m : Int)]) (Below.refl _ w3) (by rw [HLE.out]; exact hown) hgr
        rw [HLE.out] at h
        rw [HS.out]
        exact h
      clear hown hgr
      go_wp2_with fail
      go_roundw
      case rel => exact ⟨i + 1, by go_num, by omega, HN2.out⟩
      case measure => simp [intOf]; omega
    · obtain rfl : i = D + 1 := by omega
      have HD : Hid (WayPost w2 D l (.returned u5) wr) := way_done HE.out
      clear HE
      go_wp2_with fail
      go_ret
      exact HD.out
set_option maxHeartbeats 1000000 in
theorem deep_in (D N a b : Nat) (w : World) (hD : D ≤ 10) (hN : 2 ^ D = N) (ha : a < N) (hb : b < N) :
    Calls Tryz.prog 93 #[.int .i64 (N : Int), .int .i64 (a : Int), .int .i64 (b : Int)] w fun e w' => e = .returned (.int .i64 (deep D a b D : Nat)) ∧ w' = w := by
  have hN1 : N ≤ 1024 := by rw [← hN]; exact tree_le D hD
  have hd := dpt_two hD hN
  have hta := inT_yes hD hN ha
  have htb := inT_yes hD hN hb
  have hx := xor_i64 a b (by omega) (by omega)
  have hxl : a ^^^ b < 2 ^ 10 := Nat.xor_lt_two_pow (by omega) (by omega)
  have HX := Lib.hid (deep_xor D a b (by omega) (by omega))
  have HL := Lib.hid (deep_le D a b D)
  clear hN
  go_enter Tryz.func93, Tryz.ntmps93
  go_wp2_with fail
  refine (path_there (N : Int) (a : Int) _ (by omega) (by omega)).mono ?_
  rintro e w1 ⟨rfl, rfl⟩
  rw [hta]
  go_wp2_with fail
  refine (path_there (N : Int) (b : Int) _ (by omega) (by omega)).mono ?_
  rintro e w2 ⟨rfl, rfl⟩
  rw [htb]
  generalize a ^^^ b = x at *
  go_wp2_with fail
  refine (path_depth (N : Int) _ (by omega) (by omega)).mono ?_
  rintro e w3 ⟨rfl, rfl⟩
  rw [hd]
  clear hta htb hd
  go_wp2_with fail
  refine (log_any (2 * (x : Int)) _ (by omega) (by omega)).mono ?_
  rintro e w4 ⟨rfl, rfl⟩
  generalize lg (2 * (x : Int)) = g at *
  have hg0 : 0 ≤ (D : Int) - g := by rw [HX.out]; omega
  have hg1 : (D : Int) - g ≤ 10 := by rw [HX.out]; have := HL.out; omega
  go_wp2_with fail
  go_ret
  exact ⟨ret_int (by rw [HX.out]), rfl⟩
end Go.Proofs.YtmageeohnfomnaaGreat

