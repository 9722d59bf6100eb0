/- NetTurns: for every input the law returns true, and of what was in memory nothing changes. -/
import Derived.Test.YtceoopkcpkbdaaaNetSame
import Derived.Test.YtceoopkcpkbdaaaNetShape
import Derived.StillTailTactics
namespace Go.Proofs.Ytceoopkcpkbdaaa
open Go.RowKit Go.Shelf Go.ChangeShapes Go.WideShapes Go.ChangeAt

/-- From where a word comes that is turned by s. -/
def pre (n s j : Nat) : Nat := if j < s then n - s + j else j - s
/-- Whereto it goes. -/
def dst (n s i : Nat) : Nat := if i + s < n then i + s else i + s - n
theorem dst_lt {n s i : Nat} (hs : s ≤ n) (hi : i < n) : dst n s i < n := by unfold dst; split <;> omega
theorem pre_dst {n s i : Nat} (hs : s ≤ n) (hi : i < n) : pre n s (dst n s i) = i := by
  unfold pre dst
  by_cases h : i + s < n
  · rw [if_pos h, if_neg (by omega)]; omega
  · rw [if_neg h, if_pos (by omega)]; omega
theorem pre_only {n s i j : Nat} (hs : s ≤ n) (_hi : i < n) (hj : j < n) (h : pre n s j = i) : j = dst n s i := by
  unfold pre at h; unfold dst
  by_cases h1 : j < s
  · rw [if_pos h1] at h; rw [if_neg (by omega)]; omega
  · rw [if_neg h1] at h; rw [if_pos (by omega)]; omega
theorem pre_lt {n s j : Nat} (hs : s ≤ n) (hj : j < n) : pre n s j < n := by unfold pre; split <;> omega
theorem turn_perm (n s : Nat) (hs : s ≤ n) (x : Nat → Int) : (lst n (fun j => x (pre n s j))).Perm (lst n x) := by
  obtain ⟨t, rfl⟩ : ∃ t, n = s + t := ⟨n - s, by omega⟩
  have e1 : lst (s + t) (fun j => x (pre (s + t) s j)) = (List.range s).map (fun j => x (t + j)) ++ (List.range t).map x := by
    unfold lst
    rw [List.range_add, List.map_append, List.map_map]
    congr 1
    · apply List.map_congr_left
      intro j hj
      have := List.mem_range.1 hj
      unfold pre
      rw [if_pos this, show s + t - s + j = t + j by omega]
    · apply List.map_congr_left
      intro j _
      show x (pre (s + t) s (s + j)) = x j
      unfold pre
      rw [if_neg (by omega), show s + j - s = j by omega]
  have e2 : lst (s + t) x = (List.range t).map x ++ (List.range s).map (fun j => x (t + j)) := by
    unfold lst
    rw [Nat.add_comm s t, List.range_add, List.map_append, List.map_map]
    rfl
  rw [e1, e2]
  exact List.perm_append_comm
theorem lst_point {n : Nat} {x y : Nat → Int} (h : lst n x = lst n y) (i : Nat) (hi : i < n) : x i = y i := by
  have h1 := lst_at n x i (by rw [lst_len]; exact hi)
  have h2 := lst_at n y i (by rw [lst_len]; exact hi)
  rw [← h1, ← h2]
  simp only [h]
/-- Turned words are put into the same order; what is in order stays. -/
theorem turn_same (P s : Nat) (hs : s ≤ 2 ^ P) (x : Nat → Int) (i : Nat) (hi : i < 2 ^ P) : run (netL P) (fun j => x (pre (2 ^ P) s j)) i = run (netL P) x i :=
  (lst_point (net_only P x _ (net_sorted P _) ((net_perm P _).trans (turn_perm _ s hs x))) i hi).symm
theorem order_same (P : Nat) (x : Nat → Int) (i : Nat) (hi : i < 2 ^ P) : run (netL P) (run (netL P) x) i = run (netL P) x i :=
  lst_point (net_only P (run (netL P) x) _ (net_sorted P x) (List.Perm.refl _)) i hi
/-- Words, noughts behind them; the first i of them; those turned. -/
def fill (z : Nat → Int) (m k : Nat) : Int := if k < m then z k else 0
def fa (x : Nat → Int) (i k : Nat) : Int := if k < i then x k else 0
def fb (x : Nat → Int) (n s i j : Nat) : Int := if pre n s j < i then x (pre n s j) else 0
theorem fa_succ (x : Nat → Int) (i k : Nat) : fa x (i + 1) k = if k = i then x i else fa x i k := by
  unfold fa
  by_cases h : k = i
  · subst h; simp
  · rw [if_neg h]
    by_cases h2 : k < i
    · rw [if_pos h2, if_pos (by omega)]
    · rw [if_neg h2, if_neg (by omega)]
theorem fb_succ (x : Nat → Int) {n s i j : Nat} (hs : s ≤ n) (hi : i < n) (hj : j < n) : fb x n s (i + 1) j = if j = dst n s i then x i else fb x n s i j := by
  unfold fb
  by_cases h : j = dst n s i
  · rw [if_pos h, h, pre_dst hs hi, if_pos (by omega)]
  · rw [if_neg h]
    have hne : pre n s j ≠ i := fun e => h (pre_only hs hi hj e)
    by_cases h2 : pre n s j < i
    · rw [if_pos h2, if_pos (by omega)]
    · rw [if_neg h2, if_neg (by omega)]
theorem turn_clamp (n : Nat) (p : Int) : ∃ (M : Int) (s : Nat), (if (n : Int) < p then (n : Int) else p) = M ∧ (if 0 < M then M else 0) = (s : Int) ∧ s ≤ n := by
  refine ⟨_, (max 0 (min p (n : Int))).toNat, rfl, ?_, by omega⟩
  split <;> split <;> omega
/-- In the middle of laying both. -/
structure TuAt (w : World) (l : Option Addr) (nl : Nat) (z : Nat → Int) (ga gb n s i : Nat) (wr : World) : Prop where
  le : i ≤ n
  nums : Nums .u64 wr w.heap.size l nl z
  rowA : wr.rowIs ga 39 n (fun k => .int .u64 (fa (fill z nl) i k))
  rowB : wr.rowIs gb 39 n (fun j => .int .u64 (fb (fill z nl) n s i j))
  ne : ga ≠ gb
  oldA : w.heap.size ≤ ga
  oldB : w.heap.size ≤ gb
  below : Below w.heap.size w wr
/-- The first word is laid. -/
structure TuMid (w : World) (l : Option Addr) (nl : Nat) (z : Nat → Int) (ga gb n s i : Nat) (wr : World) : Prop where
  nums : Nums .u64 wr w.heap.size l nl z
  rowA : wr.rowIs ga 39 n (fun k => .int .u64 (fa (fill z nl) (i + 1) k))
  rowB : wr.rowIs gb 39 n (fun j => .int .u64 (fb (fill z nl) n s i j))
  below : Below w.heap.size w wr
section
variable {w : World} {l : Option Addr} {nl : Nat} {z : Nat → Int} {ga gb n s i : Nat} {wr wr' : World}
theorem TuAt.mid0 (h : TuAt w l nl z ga gb n s i wr) (hn : ¬ i < nl) : TuMid w l nl z ga gb n s i wr :=
  ⟨h.nums, h.rowA.congr fun k _ => by
    rw [fa_succ]
    by_cases e : k = i
    · subst e; rw [if_pos rfl]; unfold fa fill; rw [if_neg (by omega), if_neg hn]
    · rw [if_neg e], h.rowB, h.below⟩
theorem TuAt.mid1 (h : TuAt w l nl z ga gb n s i wr) (hn : i < nl) : TuMid w l nl z ga gb n s i (wr.setCell ⟨ga, i, none⟩ (.int .u64 (z i))) :=
  ⟨h.nums.below ((Below.refl _ _).setCell (p := ⟨ga, i, none⟩) h.oldA _), (h.rowA.set _ _).congr fun k _ => by
    show (if k = i then _ else _) = _
    rw [fa_succ]
    by_cases e : k = i
    · rw [if_pos e, if_pos e]; unfold fill; rw [if_pos hn]
    · rw [if_neg e, if_neg e], h.rowB.setOther (fun e => h.ne e.symm) _, h.below.setCell (p := ⟨ga, i, none⟩) h.oldA _⟩
theorem TuMid.next (h : TuMid w l nl z ga gb n s i wr) (h0 : TuAt w l nl z ga gb n s i wr') (hs : s ≤ n) (hi : i < n) : TuAt w l nl z ga gb n s (i + 1) ((wr.setCell ⟨gb, dst n s i, none⟩ (.int .u64 (fill z nl i))).drew) :=
  ⟨hi, h.nums.below ((Below.refl _ wr).setCell (p := ⟨gb, dst n s i, none⟩) h0.oldB _).drew, h.rowA.setOther h0.ne _, (h.rowB.set _ _).congr fun j hj => by
    show (if j = dst n s i then _ else _) = _
    rw [fb_succ _ hs hi hj]
    by_cases e : j = dst n s i
    · rw [if_pos e, if_pos e]
    · rw [if_neg e, if_neg e], h0.ne, h0.oldA, h0.oldB, (h.below.setCell (p := ⟨gb, dst n s i, none⟩) h0.oldB _).drew⟩
end
theorem TuAt.endA {w : World} {l : Option Addr} {nl : Nat} {z : Nat → Int} {ga gb n s : Nat} {wr : World} (h : TuAt w l nl z ga gb n s n wr) : Nums .u64 wr wr.heap.size (some ⟨ga, 0, none⟩) n (fill z nl) := fun _ =>
  ⟨ga, 0, rfl, h.rowA.lt, fun j hj => by rw [Nat.zero_add, h.rowA.cell hj]; unfold fa; rw [if_pos hj]⟩
theorem TuAt.endB {w : World} {l : Option Addr} {nl : Nat} {z : Nat → Int} {ga gb n s : Nat} {wr : World} (h : TuAt w l nl z ga gb n s n wr) (hs : s ≤ n) : Nums .u64 wr wr.heap.size (some ⟨gb, 0, none⟩) n (fun j => fill z nl (pre n s j)) := fun _ =>
  ⟨gb, 0, rfl, h.rowB.lt, fun j hj => by rw [Nat.zero_add, h.rowB.cell hj]; unfold fb; rw [if_pos (pre_lt hs hj)]⟩
theorem nums_cell {w : World} {B g o n : Nat} {z : Nat → Int} (h : Nums .u64 w B (some ⟨g, o, none⟩) n z) (h0 : 0 < n) : ∀ j, j < n → w.cell? ⟨g, o + j, none⟩ = some (.int .u64 (z j)) := by
  obtain ⟨b, off, e, _, hc⟩ := h h0
  cases e
  exact hc
theorem fill_rng (m : Nat) (z : Nat → Int) (h : ∀ j, j < m → 0 ≤ z j ∧ z j ≤ 18446744073709551615) : ∀ i, 0 ≤ fill z m i ∧ fill z m i ≤ 18446744073709551615 := by
  intro i
  unfold fill
  split
  · exact h i (by assumption)
  · omega
theorem turn_same' (P n s : Nat) (hn : 2 ^ P = n) (hs : s ≤ n) (x : Nat → Int) (i : Nat) (hi : i < n) : run (netL P) (fun j => x (pre n s j)) i = run (netL P) x i := by
  subst hn; exact turn_same P s hs x i hi
theorem order_same' (P n : Nat) (hn : 2 ^ P = n) (x : Nat → Int) (i : Nat) (hi : i < n) : run (netL P) (run (netL P) x) i = run (netL P) x i := by
  subst hn; exact order_same P x i hi
theorem dst_mod {n s i : Nat} (hs : s ≤ n) (hi : i < n) : ((i : Int) + (s : Int)) % (n : Int) = ((dst n s i : Nat) : Int) := by
  unfold dst
  by_cases h : i + s < n
  · rw [if_pos h, Int.emod_eq_of_lt (by omega) (by omega)]; omega
  · rw [if_neg h]
    have : ((i : Int) + (s : Int)) = ((i + s - n : Nat) : Int) + (n : Int) := by omega
    rw [this, Int.add_emod_right, Int.emod_eq_of_lt (by omega) (by omega)]
set_option maxRecDepth 100000 in
set_option maxHeartbeats 1000000 in
theorem turns_in (L n : Nat) (hL : L ≤ 7) (hn : 2 ^ L = n) (l : Option Addr) (nl cl : Nat) (z : Nat → Int) (p : Int) (w : World) (hnl : nl ≤ 9223372036854775807) (hl : Nums .u64 w w.heap.size l nl z) (hzr : ∀ j, j < nl → 0 ≤ z j ∧ z j ≤ 18446744073709551615) :
    Calls Try.prog 7 #[.int .i64 (L : Int), .slice l nl cl, .int .i64 p] w fun e w' => e = .returned (.bool true) ∧ Below w.heap.size w w' := by
  have h0 : decide ((L : Int) < 0) = false := by simp
  have h1 : decide (7 < (L : Int)) = false := by simp; omega
  have hn1 : n ≤ 128 := by rw [← hn]; exact Nat.pow_le_pow_right (by decide) hL
  have hn0 : 0 < n := by rw [← hn]; exact two_pos L
  have hsh := shl_one L n hn (by omega)
  have hmk := run_make_row' (P := Try.prog) 32 39 (.int .u64 0) 8 Try.underlying32 infoU64 rfl .i64 .i64 n (by omega) (by omega)
  obtain ⟨M, s, hM, hs, hsn⟩ := turn_clamp n p
  have HN := Lib.hid hn
  have HL := Lib.hid hl
  have HZ := Lib.hid hzr
  clear hn hl hzr
  go_enter Try.func7, Try.ntmps7
  go_wp2_with fail
  refine (shown_any _).mono ?_
  rintro e w1 ⟨rfl, hb1⟩
  have HT : TuAt w l nl z w1.heap.size (w1.heap.size + 1) n s 0 ((w1.alloc (.cells (madeCells #[.int .u64 0] n) 39)).alloc (.cells (madeCells #[.int .u64 0] n) 39)) := by
    have hz1 := hb1.size
    refine ⟨by omega, HL.out.below ((hb1.alloc hz1 _).alloc (by simp; omega) _), ((World.rowIs_made w1 (.int .u64 0) n 39).alloc _).congr fun k _ => by unfold fa; simp, ?_, by omega, hz1, by omega, (hb1.alloc hz1 _).alloc (by simp; omega) _⟩
    have := World.rowIs_made (w1.alloc (.cells (madeCells #[.int .u64 0] n) 39)) (.int .u64 0) n 39
    rw [World.size_alloc] at this
    exact this.congr fun k _ => by unfold fb; simp
  have HA := Lib.hid HT
  clear HT hb1
  go_wp2_with fail
  simp only [hsh]
  go_loopw [11] (fun v11 wr => ∃ i : Nat, v11 = .int .i64 i ∧ TuAt w l nl z w1.heap.size (w1.heap.size + 1) n s i wr) (fun v11 _ => n - (intOf v11).toNat)
  case atStart => exact ⟨0, rfl, HA.out⟩
  case round =>
    obtain ⟨i, rfl, hS⟩ := hrel
    clear HA
    have hle := hS.le
    by_cases hlt : i < n
    · have hdl := dst_lt hsn hlt
      have hdm := dst_mod hsn hlt
      have hdt : ((i : Int) + (s : Int)).tmod (n : Int) = ((dst n s i : Nat) : Int) := by rw [Int.tmod_eq_emod_of_nonneg (by omega)]; exact hdm
      have hdn : (i + s) % n = dst n s i := by
        have h := hdm
        rw [← Int.natCast_add, ← Int.natCast_emod] at h
        exact Int.ofNat.inj h
      have hnz : ¬ n = 0 := by omega
      have hnz2 : ¬ (n : Int) = 0 := by omega
      have his : wrap64 ((i : Int) + (s : Int)) = (i : Int) + (s : Int) := by unfold wrap64; omega
      have ca := hS.rowA.cell hlt
      have fra := hS.rowA.frozen i
      have HS := Lib.hid hS
      clear hS
      generalize hdd : dst n s i = d at *
      by_cases hin : i < nl
      · obtain ⟨b, off, rfl, hbw, cl1⟩ := HS.out.nums.at hin
        have HM2 := Lib.hid (HS.out.mid1 hin)
        go_wp2_with fail
        generalize wr.setCell ⟨w1.heap.size, i, none⟩ (.int .u64 (z i)) = w6 at *
        clear ca fra cl1
        have ca6 := HM2.out.rowA.cell hlt
        rw [fa_succ, if_pos rfl] at ca6
        have cb6 := HM2.out.rowB.cell hdl
        have fb6 := HM2.out.rowB.frozen d
        have HX := Lib.hid (HM2.out.next HS.out hsn hlt)
        rw [hdd] at HX
        clear HM2 hdd
        go_still_tail 13, (by kernel_rfl)
        change wpList _ _ _ _ _ w6.drew
        go_wp2_with fail
        go_roundw
        case rel => exact ⟨i + 1, by go_num, HX.out⟩
        case measure => simp [intOf]; omega
      · have HM2 := Lib.hid (HS.out.mid0 hin)
        go_wp2_with fail
        clear ca fra
        obtain ⟨w6, hw6⟩ : ∃ x, x = wr := ⟨_, rfl⟩
        subst hw6
        have ca6 := HM2.out.rowA.cell hlt
        rw [fa_succ, if_pos rfl] at ca6
        have cb6 := HM2.out.rowB.cell hdl
        have fb6 := HM2.out.rowB.frozen d
        have HX := Lib.hid (HM2.out.next HS.out hsn hlt)
        rw [hdd] at HX
        clear HM2 hdd
        go_still_tail 13, (by kernel_rfl)
        change wpList _ _ _ _ _ w6.drew
        go_wp2_with fail
        go_roundw
        case rel => exact ⟨i + 1, by go_num, HX.out⟩
        case measure => simp [intOf]; omega
    · have hin2 : n = i := by omega
      subst hin2
      have NA := Lib.hid hS.endA
      have NB := Lib.hid (hS.endB hsn)
      have HB := Lib.hid hS.below
      have hcn := hS.endA
      clear hS
      have hfr := fill_rng nl z HZ.out
      have hnew : ∀ j u, (lits64 n (fill z nl))[j]? = some u → (wr.alloc (.cells #[] 39)).cell? ((⟨w1.heap.size, 0, none⟩ : Addr).add j) = some u := by
        intro j u hu
        have hj : j < n := by
          have := (List.getElem?_eq_some_iff.1 hu).1; simpa [lits64] using this
        have hcj := nums_cell hcn hn0 j hj
        rw [add_plain, World.cell?_alloc_past _ _ _ (World.block_lt_of_cell? wr ⟨w1.heap.size, 0 + j, none⟩ hcj), hcj]
        simpa [lits64, hj] using hu
      clear hcn
      go_wp2_with (with_reducible refine wpList_append_fresh _ rfl (.tmp 67) (.tmp 68) 32 rfl 39 (.int .u64 0) 1 8 Try.underlying32 infoU64 rfl ⟨wr.heap.size, 0, none⟩ rfl ⟨w1.heap.size, 0, none⟩ n n (lits64 n (fill z nl)) rfl ?c1 hnew ?c2 ?c3 ?c4 ?_)
      case c1 => simp [lits64]
      case c2 => simp only [maxLen]; omega
      case c3 => omega
      case c4 => intro h; omega
      intro c w4 ho hg
      obtain ⟨hnc, _, hge⟩ := num_of_owns ho
      have hb4 : Below wr.heap.size wr w4 := ((Below.refl _ wr).alloc (Nat.le_refl _) _).grown hg (by simp) (fun k e => by cases e)
      have NC := Lib.hid (hnc.nums (B := w4.heap.size) hnc.lt)
      have NA4 := Lib.hid (NA.out.below hb4)
      have NB4 := Lib.hid (NB.out.below hb4)
      have HB4 := Lib.hid (HB.out.trans (hb4.mono HB.out.size))
      have hs4 := hb4.size
      clear ho hg hnc hge hb4 hnew NA NB HB
      go_wp2_with fail
      with_reducible refine (sort_right L w1.heap.size 0 n n (fill z nl) _ (by omega) HN.out (nums_cell NA4.out hn0) hfr).mono ?_
      rintro e w5 ⟨g1, c1, rfl, hg1, _, hx, hb5⟩
      have NX := Lib.hid (hx.nums (B := w5.heap.size) hx.lt)
      have NA5 := Lib.hid (NA4.out.below (hb5.mono hs4))
      have NB5 := Lib.hid (NB4.out.below (hb5.mono hs4))
      have NC5 := Lib.hid (NC.out.below hb5)
      have HB5 := Lib.hid (HB4.out.trans (hb5.mono HB4.out.size))
      have hs5 := hb5.size
      clear hx hb5 NA4 NB4 NC HB4
      go_wp2_with fail
      with_reducible refine (sort_right L (w1.heap.size + 1) 0 n n (fun j => fill z nl (pre n s j)) _ (by omega) HN.out (nums_cell NB5.out hn0) (fun i => hfr _)).mono ?_
      rintro e w6 ⟨g2, c2, rfl, hg2, _, hy, hb6⟩
      have NY := Lib.hid ((hy.congr (fun i hi => turn_same' L n s HN.out hsn (fill z nl) i hi)).nums (B := w6.heap.size) hy.lt)
      have NA6 := Lib.hid (NA5.out.below (hb6.mono (Nat.le_trans hs4 hs5)))
      have NC6 := Lib.hid (NC5.out.below (hb6.mono hs5))
      have NX6 := Lib.hid (NX.out.below hb6)
      have HB6 := Lib.hid (HB5.out.trans (hb6.mono HB5.out.size))
      have hs6 := hb6.size
      clear hy hb6 NA5 NB5 NC5 NX HB5
      go_wp2_with fail
      with_reducible refine (sort_right L g1 0 n c1 (run (netL L) (fill z nl)) _ (by omega) HN.out (nums_cell NX6.out hn0) (run_rng _ _ hfr)).mono ?_
      rintro e w7 ⟨g3, c3, rfl, hg3, _, hzz, hb7⟩
      have NZ := Lib.hid ((hzz.congr (fun i hi => order_same' L n HN.out (fill z nl) i hi)).nums (B := w7.heap.size) hzz.lt)
      have NA7 := Lib.hid (NA6.out.below (hb7.mono (Nat.le_trans hs4 (Nat.le_trans hs5 hs6))))
      have NC7 := Lib.hid (NC6.out.below (hb7.mono (Nat.le_trans hs5 hs6)))
      have NX7 := Lib.hid (NX6.out.below (hb7.mono hs6))
      have NY7 := Lib.hid (NY.out.below hb7)
      have HB7 := Lib.hid (HB6.out.trans (hb7.mono HB6.out.size))
      clear hzz hb7 NA6 NC6 NX6 NY HB6
      go_wp2_with fail
      with_reducible refine (same_yes _ _ n _ _ _ _ _ _ (by omega) NX7.out NY7.out).mono ?_
      rintro e w8 ⟨rfl, k8, hk8⟩
      have NZ8 : Hid (Nums .u64 w8 _ _ n _) := Lib.hid (by rw [hk8]; exact nums_drewN NZ.out k8)
      have NX8 : Hid (Nums .u64 w8 _ _ n _) := Lib.hid (by rw [hk8]; exact nums_drewN NX7.out k8)
      have NA8 : Hid (Nums .u64 w8 _ _ n _) := Lib.hid (by rw [hk8]; exact nums_drewN NA7.out k8)
      have NC8 : Hid (Nums .u64 w8 _ _ n _) := Lib.hid (by rw [hk8]; exact nums_drewN NC7.out k8)
      have HB8 : Hid (Below w.heap.size w w8) := Lib.hid (by rw [hk8]; exact below_drewN HB7.out k8)
      clear hk8 NZ NX7 NA7 NC7 NY7 HB7
      go_wp2_with fail
      with_reducible refine (same_yes _ _ n _ _ _ _ _ _ (by omega) NZ8.out NX8.out).mono ?_
      rintro e w9 ⟨rfl, k9, hk9⟩
      have NA9 : Hid (Nums .u64 w9 _ _ n _) := Lib.hid (by rw [hk9]; exact nums_drewN NA8.out k9)
      have NC9 : Hid (Nums .u64 w9 _ _ n _) := Lib.hid (by rw [hk9]; exact nums_drewN NC8.out k9)
      have HB9 : Hid (Below w.heap.size w w9) := Lib.hid (by rw [hk9]; exact below_drewN HB8.out k9)
      clear hk9 NZ8 NX8 NA8 NC8 HB8
      go_wp2_with fail
      with_reducible refine (same_yes _ _ n _ _ _ _ _ _ (by omega) NA9.out NC9.out).mono ?_
      rintro e w10 ⟨rfl, k10, hk10⟩
      have HB10 : Hid (Below w.heap.size w w10) := Lib.hid (by rw [hk10]; exact below_drewN HB9.out k10)
      clear hk10
      go_wp2_with fail
      go_ret
      exact ⟨rfl, HB10.out⟩
set_option maxHeartbeats 1000000 in
theorem turns_out (L : Int) (h : L < 0 ∨ 7 < L) (l : Option Addr) (nl cl : Nat) (p : Int) (w : World) : Calls Try.prog 7 #[.int .i64 L, .slice l nl cl, .int .i64 p] w fun e w' => e = .returned (.bool true) ∧ Below w.heap.size w w' := by
  go_enter Try.func7, Try.ntmps7
  go_wp2_with fail
  refine (shown_any _).mono ?_
  rintro e w1 ⟨rfl, hb1⟩
  have HB := Lib.hid hb1
  clear hb1
  have hor : (decide (L < 0) || decide (7 < L)) = true := by simp; exact h
  go_wp2_with fail
  all_goals (go_ret; exact ⟨rfl, HB.out⟩)
theorem turns_law (L : Int) (l : Option Addr) (nl cl : Nat) (z : Nat → Int) (p : Int) (w : World) (hnl : nl ≤ 9223372036854775807) (hl : Nums .u64 w w.heap.size l nl z) (hzr : ∀ j, j < nl → (Lit.int .u64 (z j)).wf = true) :
    Calls Try.prog 7 #[.int .i64 L, .slice l nl cl, .int .i64 p] w fun e w' => e = .returned (.bool true) ∧ Below w.heap.size w w' := by
  by_cases h : L < 0 ∨ 7 < L
  · exact turns_out L h l nl cl p w
  · obtain ⟨k, rfl⟩ := Int.eq_ofNat_of_zero_le (a := L) (by omega)
    exact turns_in k _ (by omega) rfl l nl cl z p w hnl hl (fun j hj => u64_rng (hzr j hj))
end Go.Proofs.Ytceoopkcpkbdaaa
