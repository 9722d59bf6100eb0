/- Texts of ours put together: Way. -/
import Derived.Test.YtdbjaaalngbpgaaGreatG5
import Derived.Test.YtdbjaaalngbpgaaGreatG8
/- The contracts of Node (whatever is asked), Path and Deep of package path: a node, how far two ways are one, and a way in a new slice; of what was in memory nothing changes. Conditions: each argument is an int. -/
namespace Go.Proofs.YtdbjaaalngbpgaaGreat
set_option maxRecDepth 100000
open Go.RowKit Go.Shelf Go.ChangeShapes Go.WideShapes Go.ChangeAt

set_option maxHeartbeats 1000000 in
theorem node_no (n l k : Int) (w : World) (h0 : -9223372036854775808 ≤ n) (h1 : n ≤ 9223372036854775807) (h : ¬ (inT n l = true ∧ 0 ≤ k ∧ k ≤ dpt n)) :
    Calls Tryz.prog 99 #[.int .i64 n, .int .i64 l, .int .i64 k] w fun e w' => e = .returned (.int .i64 (-1)) ∧ w' = w := by
  go_enter Tryz.func99, Tryz.ntmps99
  go_wp2_with fail
  refine (path_depth n _ h0 h1).mono ?_
  rintro e w1 ⟨rfl, rfl⟩
  go_wp2_with fail
  refine (path_there n l _ h0 h1).mono ?_
  rintro e w2 ⟨rfl, rfl⟩
  cases ht : inT n l
  · clear h
    go_wp2_with fail
    go_ret
    exact ⟨rfl, rfl⟩
  · generalize dpt n = d at *
    by_cases hk : k < 0
    · clear h
      go_wp2_with fail
      go_ret
      exact ⟨rfl, rfl⟩
    · have hd : (d : Int) < k := by
        apply Int.not_le.1
        intro e
        exact h ⟨ht, by omega, e⟩
      clear h
      go_wp2_with fail
      go_ret
      exact ⟨rfl, rfl⟩
theorem path_node (n l k : Int) (w : World) (h0 : -9223372036854775808 ≤ n) (h1 : n ≤ 9223372036854775807) :
    Calls Tryz.prog 99 #[.int .i64 n, .int .i64 l, .int .i64 k] w fun e w' => e = .returned (.int .i64 (nodeI n l k)) ∧ w' = w := by
  by_cases h : inT n l = true ∧ 0 ≤ k ∧ k ≤ dpt n
  · obtain ⟨ht, hk0, hk1⟩ := h
    obtain ⟨D, m, hD, rfl, rfl, hm⟩ := (inT_iff n l).1 ht
    obtain ⟨j, rfl⟩ := Int.eq_ofNat_of_zero_le hk0
    rw [dpt_two hD rfl] at hk1
    rw [nodeI_in hD rfl hm (by omega)]
    exact node_in D _ m j w hD rfl hm (by omega)
  · rw [nodeI_no h]
    exact node_no n l k w h0 h1 h

/-- The nodes of the first depths. -/
def wayI (D l i : Nat) : List Int := (List.range i).map fun k => (nd D l k : Int)
theorem wayI_succ (D l i : Nat) : wayI D l (i + 1) = wayI D l i ++ [(nd D l i : Int)] := by unfold wayI; rw [List.range_succ, List.map_append]; rfl
theorem wayI_len (D l i : Nat) : (wayI D l i).length = i := by simp [wayI]
/-- Behind Path: a way lies in a new slice. -/
def WayPost (w : World) (D l : Nat) (e : Ending) (w' : World) : Prop :=
  ∃ g cap, e = .returned (.slice (some ⟨g, 0, none⟩) (D + 1) cap) ∧ D + 1 ≤ cap ∧ Ir w' w.heap.size g (D + 1) (fun k => (nd D l k : Int)) ∧ Below w.heap.size w w'
theorem way_done {w wr : World} {v : Value} {D l : Nat} (h : IrAt w v (wayI D l (D + 1)) wr) : WayPost w D l (.returned v) wr := by
  obtain ⟨g, cap, rfl, hc, hi⟩ := h.out (by rw [wayI_len]; omega) (fun k => (nd D l k : Int)) (fun j hj => by simp [wayI])
  rw [wayI_len] at hc hi
  refine ⟨g, cap, by rw [wayI_len], hc, hi, h.below⟩
set_option maxRecDepth 100000 in
set_option maxHeartbeats 1000000 in
theorem way_in (D N l : Nat) (w : World) (hD : D ≤ 10) (hN : 2 ^ D = N) (hl : l < N) :
    Calls Tryz.prog 82 #[.int .i64 (N : Int), .int .i64 (l : Int)] w (WayPost w D l) := by
  have hN1 : N ≤ 1024 := by rw [← hN]; exact tree_le D hD
  have hd := dpt_two hD hN
  have ht := inT_yes hD hN hl
  have HN := Lib.hid hN
  clear hN
  go_enter Tryz.func82, Tryz.ntmps82
  go_wp2_with fail
  refine (path_there (N : Int) (l : Int) _ (by omega) (by omega)).mono ?_
  rintro e w1 ⟨rfl, rfl⟩
  rw [ht]
  go_wp2_with fail
  refine (path_depth (N : Int) _ (by omega) (by omega)).mono ?_
  rintro e w2 ⟨rfl, rfl⟩
  rw [hd]
  clear ht hd
  go_wp2_with fail
  go_loopw [5, 14] (fun v5 v wr => ∃ i : Nat, v = .int .i64 i ∧ i ≤ D + 1 ∧ IrAt w2 v5 (wayI D l i) wr) (fun _ v _ => D + 1 - (intOf v).toNat)
  case atStart => exact ⟨0, rfl, by omega, IrAt.nil w2⟩
  case round =>
    obtain ⟨i, rfl, hi, hE⟩ := hrel
    have HE := Lib.hid hE
    clear hE
    by_cases hlt : i < D + 1
    · have hsz := HE.out.below.size
      have HLE := Lib.hid (wayI_len D l i)
      have HOW : Hid (wr.ownsRow w2.heap.size 3 1 u5 i (irow (wayI D l i))) := by
        have := HE.out.own
        rwa [HLE.out] at this
      go_wp2_with fail
      with_reducible refine (node_in D N l i _ hD HN.out hl (by omega)).mono ?_
      rintro e w3 ⟨rfl, rfl⟩
      have HS := Lib.hid (wayI_succ D l i)
      generalize nd D l i = m at *
      go_wp2_with (with_reducible refine wpList_append_where _ rfl (.tmp 17) (.tmp 22) 39 rfl w2.heap.size 3 (.int .i64 0) 1 8 Tryz.underlying39 infoI64 rfl (by decide) u5 i (irow (wayI D l i)) rfl (HOW.out.alloc _) ⟨w3.heap.size, 0, none⟩ 1 1 (irow [(m : Int)]) rfl rfl ?c0 (irow_one _) ?c2 ?c3 ?c4 ?_)
      case c0 => exact irow_new w3 _ [(m : Int)] rfl
      case c2 => simp only [maxLen]; omega
      case c3 => omega
      case c4 => simp; omega
      intro A2 cap2 w7 hown hgr _
      have HN2 : Hid (IrAt w2 (.slice A2 (i + 1) cap2) (wayI D l (i + 1)) w7) := by
        have h := HE.out.next (m := [(m : Int)]) (Below.refl _ w3) (by rw [HLE.out]; exact hown) hgr
        rw [HLE.out] at h
        rw [HS.out]
        exact h
      clear hown hgr
      go_wp2_with fail
      go_roundw
      case rel => exact ⟨i + 1, by go_num, by omega, HN2.out⟩
      case measure => simp [intOf]; omega
    · obtain rfl : i = D + 1 := by omega
      have HD : Hid (WayPost w2 D l (.returned u5) wr) := way_done HE.out
      clear HE
      go_wp2_with fail
      go_ret
      exact HD.out
theorem way_no (n l : Int) (w : World) (h0 : -9223372036854775808 ≤ n) (h1 : n ≤ 9223372036854775807) (h : inT n l = false) :
    Calls Tryz.prog 82 #[.int .i64 n, .int .i64 l] w fun e w' => e = .returned (.slice none 0 0) ∧ w' = w := by
  go_enter Tryz.func82, Tryz.ntmps82
  go_wp2_with fail
  refine (path_there n l _ h0 h1).mono ?_
  rintro e w1 ⟨rfl, rfl⟩
  rw [h]
  go_wp2_with fail
  go_ret
  exact ⟨rfl, rfl⟩
set_option maxHeartbeats 1000000 in
theorem deep_in (D N a b : Nat) (w : World) (hD : D ≤ 10) (hN : 2 ^ D = N) (ha : a < N) (hb : b < N) :
    Calls Tryz.prog 114 #[.int .i64 (N : Int), .int .i64 (a : Int), .int .i64 (b : Int)] w fun e w' => e = .returned (.int .i64 (deep D a b D : Nat)) ∧ w' = w := by
  have hN1 : N ≤ 1024 := by rw [← hN]; exact tree_le D hD
  have hd := dpt_two hD hN
  have hta := inT_yes hD hN ha
  have htb := inT_yes hD hN hb
  have hx := xor_i64 a b (by omega) (by omega)
  have hxl : a ^^^ b < 2 ^ 10 := Nat.xor_lt_two_pow (by omega) (by omega)
  have HX := Lib.hid (deep_xor D a b (by omega) (by omega))
  have HL := Lib.hid (deep_le D a b D)
  clear hN
  go_enter Tryz.func114, Tryz.ntmps114
  go_wp2_with fail
  refine (path_there (N : Int) (a : Int) _ (by omega) (by omega)).mono ?_
  rintro e w1 ⟨rfl, rfl⟩
  rw [hta]
  go_wp2_with fail
  refine (path_there (N : Int) (b : Int) _ (by omega) (by omega)).mono ?_
  rintro e w2 ⟨rfl, rfl⟩
  rw [htb]
  generalize a ^^^ b = x at *
  go_wp2_with fail
  refine (path_depth (N : Int) _ (by omega) (by omega)).mono ?_
  rintro e w3 ⟨rfl, rfl⟩
  rw [hd]
  clear hta htb hd
  go_wp2_with fail
  refine (log_any (2 * (x : Int)) _ (by omega) (by omega)).mono ?_
  rintro e w4 ⟨rfl, rfl⟩
  generalize lg (2 * (x : Int)) = g at *
  have hg0 : 0 ≤ (D : Int) - g := by rw [HX.out]; omega
  have hg1 : (D : Int) - g ≤ 10 := by rw [HX.out]; have := HL.out; omega
  go_wp2_with fail
  go_ret
  exact ⟨ret_int (by rw [HX.out]), rfl⟩
set_option maxHeartbeats 1000000 in
theorem deep_no (n a b : Int) (w : World) (h0 : -9223372036854775808 ≤ n) (h1 : n ≤ 9223372036854775807) (h : ¬ (inT n a = true ∧ inT n b = true)) :
    Calls Tryz.prog 114 #[.int .i64 n, .int .i64 a, .int .i64 b] w fun e w' => e = .returned (.int .i64 (-1)) ∧ w' = w := by
  go_enter Tryz.func114, Tryz.ntmps114
  go_wp2_with fail
  refine (path_there n a _ h0 h1).mono ?_
  rintro e w1 ⟨rfl, rfl⟩
  cases ht : inT n a
  · clear h
    go_wp2_with fail
    go_ret
    exact ⟨rfl, rfl⟩
  · have hb : inT n b = false := by
      cases hb : inT n b
      · rfl
      · exact absurd ⟨ht, hb⟩ h
    clear h
    go_wp2_with fail
    refine (path_there n b _ h0 h1).mono ?_
    rintro e w2 ⟨rfl, rfl⟩
    rw [hb]
    go_wp2_with fail
    go_ret
    exact ⟨rfl, rfl⟩
theorem path_deep (n a b : Int) (w : World) (h0 : -9223372036854775808 ≤ n) (h1 : n ≤ 9223372036854775807) :
    Calls Tryz.prog 114 #[.int .i64 n, .int .i64 a, .int .i64 b] w fun e w' => e = .returned (.int .i64 (deepI n a b)) ∧ w' = w := by
  by_cases h : inT n a = true ∧ inT n b = true
  · obtain ⟨ha, hb⟩ := h
    obtain ⟨D, x, hD, rfl, rfl, hx⟩ := (inT_iff n a).1 ha
    obtain ⟨D2, y, hD2, e, rfl, hy⟩ := (inT_iff _ b).1 hb
    have hy' : y < 2 ^ D := by omega
    rw [deepI_in hD rfl hx hy']
    exact deep_in D _ x y w hD rfl hx hy'
  · rw [deepI_no h]
    exact deep_no n a b w h0 h1 h
end Go.Proofs.YtdbjaaalngbpgaaGreat
