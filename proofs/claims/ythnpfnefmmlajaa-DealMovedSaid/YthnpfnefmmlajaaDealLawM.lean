/- DealMoved: for every input the law returns true, and of what was in memory nothing changes. -/
import Derived.Test.YthnpfnefmmlajaaDealLawN
import Derived.Test.YthnpfnefmmlajaaHeld
namespace Go.Proofs.Ythnpfnefmmlajaa
open Go.RowKit Go.ChangeShapes Go.WideShapes Go.ChangeAt

/-- A row of items of the call's own, cell by cell. -/
theorem own_row2 {w : World} {base : Nat} {t : TypeId} {A : Option Addr} {n cap : Nat} {y : Nat → It} (h : w.ownsRow base t 2 (.slice A n cap) n (itl (lsI n y))) (hn : 0 < n) :
    ∃ (g : Nat) (f : Nat → Value), A = some ⟨g, 0, none⟩ ∧ base ≤ g ∧ n ≤ cap ∧ w.rowIs g t (cap * 2) f ∧ ∀ j, j < n → f (j * 2) = .int .u64 (y j).1 ∧ f (j * 2 + 1) = .int .i64 (y j).2 := by
  have h' := h
  rcases h.2 with ⟨_, h0⟩ | ⟨g, cap', cur, e, hb, hg, hc, _, hcs, _⟩
  · omega
  · injection e with e1 _ e3
    subst e1 e3
    refine ⟨g, fun i => cur[i]?.getD undef, rfl, hb, hc, ⟨cur, hg, hcs, fun i hi => ?_⟩, fun j hj => ?_⟩
    · show cur[i]? = some (cur[i]?.getD undef)
      rw [Array.getElem?_eq_getElem (by omega)]; rfl
    · have hl := itl_at (lsI n y) j (by rw [lsI_len]; exact hj)
      have e0 : (lsI n y)[j]'(by rw [lsI_len]; exact hj) = y j := by simp [lsI]
      rw [e0] at hl
      have q0 := h'.cells (g := g) rfl (j * 2) _ hl.1
      have q1 := h'.cells (g := g) rfl (j * 2 + 1) _ hl.2
      have hbx : Box w g t cur := hg
      rw [add_plain, Nat.zero_add, hbx.cell] at q0 q1
      exact ⟨by show cur[j * 2]?.getD undef = _; rw [q0]; rfl, by show cur[j * 2 + 1]?.getD undef = _; rw [q1]; rfl⟩
/-- An Id with its place behind it. -/
def nid (y : Nat → It) (i : Nat) : Int := IntKind.u64.wrap (IntKind.u64.wrap ((y i).1 * 256) + (i : Int))
theorem nid_mod (y : Nat → It) (i : Nat) (hi : i < 256) : nid y i % 256 = (i : Int) := by
  unfold nid
  simp only [IntKind.wrap_u64]
  omega
theorem nid_ne {y : Nat → It} {i j : Nat} (hi : i < 256) (hj : j < 256) (h : nid y i = nid y j) : i = j := by
  have h1 := nid_mod y i hi
  have h2 := nid_mod y j hj
  rw [h] at h1
  omega
def mvy (y : Nat → It) (i : Nat) : It := (nid y i, (y i).2)
/-- The first i of them are written. -/
def mvi (y : Nat → It) (i j : Nat) : It := if j < i then mvy y j else y j
structure MvAt (w : World) (g n cap : Nat) (y : Nat → It) (i : Nat) (wr : World) : Prop where
  row : ∃ f, wr.rowIs g 44 (cap * 2) f ∧ ∀ j, j < n → f (j * 2) = .int .u64 (mvi y i j).1 ∧ f (j * 2 + 1) = .int .i64 (mvi y i j).2
  old : w.heap.size ≤ g
  below : Below w.heap.size w wr
theorem MvAt.next {w wr : World} {g n cap i : Nat} {y : Nat → It} (h : MvAt w g n cap y i wr) (_hi : i < n) : MvAt w g n cap y (i + 1) (wr.setCell ⟨g, i * 2, none⟩ (.int .u64 (nid y i))) := by
  obtain ⟨f, hf, hv⟩ := h.row
  refine ⟨⟨_, hf.set _ _, fun j hj => ?_⟩, h.old, h.below.setCell (p := ⟨g, _, none⟩) h.old _⟩
  obtain ⟨h1, h2⟩ := hv j hj
  refine ⟨?_, ?_⟩
  · show (if j * 2 = i * 2 then _ else _) = _
    by_cases e : j = i
    · subst e
      rw [if_pos rfl]
      unfold mvi; rw [if_pos (by omega)]; rfl
    · rw [if_neg (by omega), h1]
      unfold mvi
      by_cases e2 : j < i
      · rw [if_pos e2, if_pos (by omega)]
      · rw [if_neg e2, if_neg (by omega)]
  · show (if j * 2 + 1 = i * 2 then _ else _) = _
    rw [if_neg (by omega), h2]
    unfold mvi
    by_cases e2 : j < i
    · rw [if_pos e2, if_pos (by omega)]
    · by_cases e : j = i
      · subst e; rw [if_neg e2, if_pos (by omega)]; rfl
      · rw [if_neg e2, if_neg (by omega)]
theorem MvAt.its {w wr : World} {g n cap : Nat} {y : Nat → It} (h : MvAt w g n cap y n wr) (hc : n ≤ cap) : Its wr wr.heap.size (some ⟨g, 0, none⟩) n (mvy y) := fun _ => by
  obtain ⟨f, hf, hv⟩ := h.row
  refine ⟨g, 0, rfl, hf.lt, fun j hj => ?_⟩
  obtain ⟨h1, h2⟩ := hv j hj
  have e : mvi y n j = mvy y j := by unfold mvi; rw [if_pos hj]
  rw [e] at h1 h2
  have q0 := hf.cell (i := j * 2) (by omega)
  have q1 := hf.cell (i := j * 2 + 1) (by omega)
  rw [h1] at q0
  rw [h2] at q1
  rw [Nat.zero_add]
  exact ⟨q0, q1⟩
/-- Is i among the first j? -/
def ms (l : List Nat) (j i : Nat) : Bool := (l.take j).contains i
theorem ms_succ {l : List Nat} {j x : Nat} (hx : l[j]? = some x) (i : Nat) : ms l (j + 1) i = (ms l j i || decide (x = i)) := by
  unfold ms
  rw [take_snoc hx, List.contains_append]
  congr 1
  by_cases e : x = i
  · subst e; simp
  · have : ¬ i = x := fun h => e h.symm
    simp [e, this]
theorem ms_all (l : List Nat) (i : Nat) : ms l l.length i = l.contains i := by unfold ms; rw [List.take_length]
theorem own_none (w : World) (base : Nat) (hb : base ≤ w.heap.size) (t : TypeId) : (w.alloc (.cells #[] t)).ownsRow base t 2 (.slice (some ⟨w.heap.size, 0, none⟩) 0 0) 0 [] :=
  ⟨rfl, .inr ⟨w.heap.size, 0, #[], rfl, hb, heap_alloc_new w _, Nat.le_refl _, Nat.zero_le _, rfl, rfl⟩⟩
theorem cut2_at (g cp p : Nat) : ∃ o, (if cp = p then some (⟨g, 0, none⟩ : Addr) else some ⟨g, p * 2, none⟩) = some ⟨g, o, none⟩ ∧ (cp ≠ p → o = p * 2) := by
  by_cases e : cp = p
  · exact ⟨0, by rw [if_pos e], fun h => absurd e h⟩
  · exact ⟨p * 2, by rw [if_neg e], fun _ => rfl⟩
/-- Items in memory, from one on. -/
theorem itl_append (l m : List It) : itl (l ++ m) = itl l ++ itl m := by unfold itl; rw [List.flatMap_append]
theorem its_news {w : World} {B g n : Nat} {z : Nat → It} (h : Its w B (some ⟨g, 0, none⟩) n z) (m p o : Nat) (hm : p + m ≤ n) (ho : 0 < m → o = p * 2) : ∀ j u, (itl (lsI m (fun i => z (p + i))))[j]? = some u → w.cell? ((⟨g, o, none⟩ : Addr).add j) = some u := by
  intro j u hu
  have hj : j < m * 2 := by
    have := (List.getElem?_eq_some_iff.1 hu).1
    rwa [itl_len, lsI_len] at this
  have e := ho (by omega)
  subst e
  have hl := itl_at (lsI m (fun i => z (p + i))) (j / 2) (by rw [lsI_len]; omega)
  have e0 : (lsI m (fun i => z (p + i)))[j / 2]'(by rw [lsI_len]; omega) = z (p + j / 2) := by simp [lsI]
  rw [e0] at hl
  obtain ⟨b', off', ea, _, c0, c1⟩ := h.at (j := p + j / 2) (by omega)
  cases ea
  rw [Nat.zero_add] at c0 c1
  rw [add_plain]
  have h2 : j % 2 = 0 ∨ j % 2 = 1 := by omega
  rcases h2 with h2 | h2
  · have ej : j = j / 2 * 2 := by omega
    rw [ej] at hu
    rw [hl.1] at hu
    injection hu with hu
    subst hu
    rw [show p * 2 + j = (p + j / 2) * 2 by omega]
    exact c0
  · have ej : j = j / 2 * 2 + 1 := by omega
    rw [ej] at hu
    rw [hl.2] at hu
    injection hu with hu
    subst hu
    rw [show p * 2 + j = (p + j / 2) * 2 + 1 by omega]
    exact c1
theorem lsI_turn {n t : Nat} (ht : t ≤ n) (z : Nat → It) : lsI (n - t) (fun i => z (t + i)) ++ lsI t (fun i => z (0 + i)) = lsI n (fun j => z ((j + t) % n)) := by
  have e : n = (n - t) + t := by omega
  unfold lsI
  conv => rhs; rw [show List.range n = List.range (n - t) ++ (List.range t).map (n - t + ·) by rw [← List.range_add]; congr 1]
  rw [List.map_append, List.map_map]
  congr 1
  · apply List.map_congr_left
    intro i hi
    have := List.mem_range.1 hi
    rw [turn_is (by omega) ht, if_pos (by omega), Nat.add_comm]
  · apply List.map_congr_left
    intro i hi
    have := List.mem_range.1 hi
    show z (0 + i) = z ((n - t + i + t) % n)
    rw [turn_is (by omega) ht, if_neg (by omega)]
    congr 1
    omega
set_option maxRecDepth 100000 in
set_option maxHeartbeats 4000000 in
theorem moved_in (D S T L n nl c : Nat) (a : Option Addr) (y : Nat → It) (by' : Int) (w : World) (h1 : D ≤ 10) (h2 : 1 ≤ S) (h3 : S ≤ 8) (h4 : 1 ≤ T) (h5 : T ≤ 64) (hL : (D + 1) * S = L) (hn : L + T + 1 = n)
    (hI : Its w w.heap.size a nl y) (hy : ∀ j, j < nl → ItOk (y j)) (hnl : nl ≤ 100) :
    Calls Try.prog 6 #[.agg #[.int .i64 (D : Int), .int .i64 (S : Int), .int .i64 (T : Int)], .slice a nl c, .int .i64 by'] w fun e w' => e = .returned (.bool true) ∧ Below w.heap.size w w' := by
  have hl := (mul_places h1 h3 hL)
  have hl1 : 1 ≤ L := by rw [← hL]; exact Nat.le_trans h2 (Nat.le_mul_of_pos_left S (by omega))
  have hsh := isSh_yes h1 h2 h3 h4 h5
  have HR := Lib.hid (fun W => (deal_right (D : Int) (S : Int) (T : Int) W))
  rw [hsh] at HR
  have HP := Lib.hid (fun W => places_in D S T L n h1 h2 h3 h4 h5 hL hn W)
  have HD := Lib.hid (fun W a c y hI hy => deal_in D S T L n c a y W h1 h2 h3 h4 h5 hL hn hI hy)
  have HL := Lib.hid hL
  have hnb : 3 ≤ n ∧ n ≤ 153 := by omega
  have HN := Lib.hid hn
  have HMul := Lib.hid hl.1
  have hl2 := hl.2
  have HI := Lib.hid hI
  have HY := Lib.hid (fl_ok (n := n) hy)
  have hnl2 : (nl : Int) ≤ 100 := by omega
  have hLn : L < n := by omega
  clear hl hsh hn hL hI hy
  go_enter Try.func6, Try.ntmps6
  go_wp2_with fail
  refine (shown_any _).mono ?_
  rintro e w1 ⟨rfl, hb1⟩
  have hbx := (Box.new w 23 #[.int .i64 (D : Int), .int .i64 (S : Int), .int .i64 (T : Int)]).of (hb1.block _ (by simp))
  have HB := Lib.hid (((Below.refl _ w).alloc (Nat.le_refl _) (.cells #[.int .i64 (D : Int), .int .i64 (S : Int), .int .i64 (T : Int)] 23)).trans (hb1.mono (by simp)))
  have c0 := hbx.cell 0
  have c1 := hbx.cell 1
  have c2 := hbx.cell 2
  have HBx := Lib.hid hbx
  clear hb1 hbx
  go_wp2_with fail
  refine (HR.out _).mono ?_
  rintro e w2 ⟨rfl, hb2⟩
  have HB2 := Lib.hid (HB.out.trans (hb2.mono HB.out.size))
  have HBx2 := Lib.hid (HBx.out.of (hb2.block _ HBx.out.lt))
  clear hb2 HB HBx c0 c1 c2
  have c0 := HBx2.out.cell 0
  have c1 := HBx2.out.cell 1
  have c2 := HBx2.out.cell 2
  go_wp2_with fail
  refine (HP.out _).mono ?_
  rintro e w3 ⟨rfl, hb3⟩
  have HB3 := Lib.hid (HB2.out.trans (hb3.mono HB2.out.size))
  have HBx3 := Lib.hid (HBx2.out.of (hb3.block _ HBx2.out.lt))
  clear hb3 HB2 HBx2 c0 c1 c2
  go_wp2_with fail
  refine (filled_any a nl c n y w3 (by omega) ((HI.out.below HB3.out).more HB3.out.size)).mono ?_
  rintro e w4 ⟨A, cap, rfl, hown, hb4⟩
  obtain ⟨g, f, rfl, hgo, hcap, hrow, hval⟩ := own_row2 hown (by omega)
  have HB4 := Lib.hid (HB3.out.trans (hb4.mono HB3.out.size))
  have HBx4 := Lib.hid (HBx3.out.of (hb4.block _ HBx3.out.lt))
  have HMv : Hid (MvAt w3 g n cap (fl nl y) 0 w4) := Lib.hid ⟨⟨f, hrow, fun j hj => by unfold mvi; rw [if_neg (by omega)]; exact hval j hj⟩, hgo, hb4⟩
  have hx3 := HBx3.out.lt
  clear hown hb4 HBx4 hrow hval hgo HR HP HI
  generalize fl nl y = k at *
  go_wp2_with fail
  go_loopw [10] (fun v wr => ∃ i : Nat, v = .int .i64 i ∧ i ≤ n ∧ MvAt w3 g n cap k i wr) (fun v _ => n - (intOf v).toNat)
  case atStart => exact ⟨0, rfl, by omega, HMv.out⟩
  case round =>
    obtain ⟨i, rfl, hle, hS⟩ := hrel
    clear HMv
    by_cases hin : i < n
    · obtain ⟨f, hf, hv⟩ := hS.row
      have q0 := hf.cell (i := i * 2) (by omega)
      rw [(hv i hin).1] at q0
      have e0 : mvi k i i = k i := by unfold mvi; rw [if_neg (by omega)]
      rw [e0] at q0
      have z0 := hf.frozen (i * 2)
      have HN := Lib.hid (hS.next hin)
      have hnd : nid k i = IntKind.u64.wrap (IntKind.u64.wrap ((k i).1 * 256) + (i : Int)) := rfl
      have HNd := Lib.hid hnd
      clear hS hf hv e0 hnd
      generalize (k i).1 = idv at *
      go_wp2_with fail
      go_roundw
      case rel => exact ⟨i + 1, by go_num, by omega, by rw [← HNd.out]; exact HN.out⟩
      case measure => simp [intOf]; omega
    · obtain ⟨t, ht⟩ := Int.eq_ofNat_of_zero_le (a := max 0 (min by' (n : Int))) (by omega)
      have htn : t ≤ n := by omega
      have ein : n = i := by omega
      subst ein
      have hits := hS.its hcap
      have HB9 := Lib.hid (HB3.out.trans (hS.below.mono HB3.out.size))
      have HBx9 := Lib.hid (HBx3.out.of (hS.below.block _ hx3))
      have hglt := hS.row
      have HIt := Lib.hid hits
      obtain ⟨w9, h9⟩ : ∃ x, x = wr := ⟨_, rfl⟩
      subst h9
      clear hS hits hin hle HBx3 HB3 hx3 hglt
      go_wp2_with fail
      obtain ⟨o2, ho2, ho3⟩ := cut2_at g cap t
      have hpc : ¬ cap < t := by omega
      have hpl : ((0 : Int) ≤ (t : Int) ∧ (t : Int) ≤ (n : Int)) := by omega
      have hgl : g < w9.drew.heap.size := by
        obtain ⟨b', off', ea, hbb, _⟩ := HIt.out (by omega)
        cases ea; exact hbb
      have HIt2 : Hid (Its w9.drew w9.drew.heap.size (some ⟨g, 0, none⟩) n (mvy k)) := HIt
      have HB10 : Hid (Below w.heap.size w w9.drew) := Lib.hid HB9.out.drew
      have HBx10 : Hid (Box w9.drew w.heap.size 23 #[.int .i64 (D : Int), .int .i64 (S : Int), .int .i64 (T : Int)]) := HBx9
      clear ht HIt HB9 HBx9
      refine held_t 10 rfl (by kernel_rfl) ?_
      generalize w9.drew = w10 at *
      simp only [Array.replicate_succ, Array.replicate_zero, List.push_toArray, List.nil_append, List.cons_append]
      refine wpAnyH_take (i := 1) (oi := ⟨some 63, _, _, _, _, _⟩) (v := .slice (some ⟨g, 0, none⟩) n cap) rfl (by kernel_rfl) (by kernel_rfl) (by kernel_rfl) (fun _ _ _ h => h) (Or.inl ⟨by rfl, fun w' _ => by go_simp⟩) trivial ?_
      try simp only [Act.put, List.setIfInBounds_toArray, List.set_cons_zero, List.set_cons_succ]
      refine wpAnyH_take (i := 2) (oi := ⟨some 64, _, _, _, _, _⟩) (v := .int .i64 (t : Int)) rfl (by kernel_rfl) (by kernel_rfl) (by kernel_rfl) (fun _ _ _ h => h) (Or.inl ⟨by rfl, fun w' _ => by go_simp⟩) trivial ?_
      try simp only [Act.put, List.setIfInBounds_toArray, List.set_cons_zero, List.set_cons_succ]
      refine wpAnyH_take (i := 3) (oi := ⟨some 65, _, _, _, _, _⟩) (v := .slice (some ⟨g, o2, none⟩) (n - t) (cap - t)) rfl (by kernel_rfl) (by kernel_rfl) (by kernel_rfl) (fun _ _ _ h => h) (Or.inl ⟨by rfl, fun w' _ => by go_simp⟩) trivial ?_
      try simp only [Act.put, List.setIfInBounds_toArray, List.set_cons_zero, List.set_cons_succ]
      refine wpAnyH_take (i := 5) (oi := ⟨some 67, _, _, _, _, _⟩) (v := .slice (some ⟨g, 0, none⟩) n cap) rfl (by kernel_rfl) (by kernel_rfl) (by kernel_rfl) (fun _ _ _ h => h) (Or.inl ⟨by rfl, fun w' _ => by go_simp⟩) trivial ?_
      try simp only [Act.put, List.setIfInBounds_toArray, List.set_cons_zero, List.set_cons_succ]
      refine wpAnyH_take (i := 6) (oi := ⟨some 68, _, _, _, _, _⟩) (v := .int .i64 (t : Int)) rfl (by kernel_rfl) (by kernel_rfl) (by kernel_rfl) (fun _ _ _ h => h) (Or.inl ⟨by rfl, fun w' _ => by go_simp⟩) trivial ?_
      try simp only [Act.put, List.setIfInBounds_toArray, List.set_cons_zero, List.set_cons_succ]
      refine wpAnyH_take (i := 7) (oi := ⟨some 69, _, _, _, _, _⟩) (v := .slice (some ⟨g, 0, none⟩) t cap) rfl (by kernel_rfl) (by kernel_rfl) (by kernel_rfl) (fun _ _ _ h => h) (Or.inl ⟨by rfl, fun w' _ => by go_simp⟩) trivial ?_
      try simp only [Act.put, List.setIfInBounds_toArray, List.set_cons_zero, List.set_cons_succ]
      refine one_ready 0 rfl (by kernel_rfl) (fun K hK => ?_)
      go_simp
      refine hK.out _ _ trivial (fun _ => ?_)
      clear hK K
      simp only [List.setIfInBounds_toArray, List.set_cons_zero]
      refine one_ready 4 rfl (by kernel_rfl) (fun K hK => ?_)
      refine step_append_where rfl (.tmp 62) (.tmp 65) 24 rfl w10.heap.size 44 (.agg #[.int .u64 0, .int .i64 0]) 2 16 Try.underlying24 infoItem rfl (by decide) (.slice (some ⟨w10.heap.size, 0, none⟩) 0 0) 0 [] rfl (own_none w10 w10.heap.size (Nat.le_refl _) _) ⟨g, o2, none⟩ (n - t) (cap - t) (itl (lsI (n - t) (fun i => mvy k (t + i)))) rfl (by rw [itl_len, lsI_len]) ?c1 (itl_one _) ?c2 ?c3 ?c4 ?_
      case c1 =>
        intro j u hu
        have h := its_news HIt2.out (n - t) t o2 (by omega) (fun h => ho3 (by omega)) j u hu
        exact (((Below.refl _ w10).alloc (Nat.le_refl _) (.cells #[] 44)).cell (p := (⟨g, o2, none⟩ : Addr).add j) (by rw [add_plain]; exact hgl)).trans h
      case c2 => simp only [maxLen]; omega
      case c3 => omega
      case c4 => simp
      intro A3 cap3 w5 hown3 hgr3 hwh3
      have hge3 : ∀ b, (Value.slice A3 (0 + (n - t)) cap3).ownBlock = some b → w10.heap.size ≤ b := fun b e => (own_lt hown3 e).1
      have hs5 : w10.heap.size + 1 ≤ w5.heap.size := by have := hgr3.size; simpa using this
      have hb5 : Below w10.heap.size w10 w5 := ((Below.refl _ w10).alloc (Nat.le_refl _) (.cells #[] 44)).grown hgr3 (by simp) (fun b e => by simp [Value.ownBlock] at e; omega)
      refine hK.out _ _ trivial (fun _ => ?_)
      clear hK K
      simp only [Act.put, List.setIfInBounds_toArray, List.set_cons_zero, List.set_cons_succ]
      refine one_ready 8 rfl (by kernel_rfl) (fun K hK => ?_)
      refine step_append_where rfl (.tmp 66) (.tmp 69) 24 rfl w10.heap.size 44 (.agg #[.int .u64 0, .int .i64 0]) 2 16 Try.underlying24 infoItem rfl (by decide) (.slice A3 (0 + (n - t)) cap3) (0 + (n - t)) ([] ++ itl (lsI (n - t) (fun i => mvy k (t + i)))) rfl hown3 ⟨g, 0, none⟩ t cap (itl (lsI t (fun i => mvy k (0 + i)))) rfl (by rw [itl_len, lsI_len]) ?c1 (itl_one _) ?c2 ?c3 ?c4 ?_
      case c1 =>
        intro j u hu
        have h := its_news HIt2.out t 0 0 (by omega) (fun _ => rfl) j u hu
        exact (hb5.cell (p := (⟨g, 0, none⟩ : Addr).add j) (by rw [add_plain]; exact hgl)).trans h
      case c2 => simp only [maxLen]; omega
      case c3 => omega
      case c4 => omega
      intro A4 cap4 w6 hown4 hgr4 hwh4
      have hb6 : Below w10.heap.size w10 w6 := hb5.grown hgr4 (by omega) hge3
      have hown5 : w6.ownsRow w10.heap.size 44 2 (.slice A4 n cap4) n (itl (lsI n (fun j => mvy k ((j + t) % n)))) := by
        have h := hown4
        rw [List.nil_append, ← itl_append, lsI_turn htn, show 0 + (n - t) + t = n by omega] at h
        exact h
      have HTu := Lib.hid (own_items hown5)
      have HIt6 := Lib.hid ((HIt2.out.below hb6).more hb6.size)
      have HB6 := Lib.hid (HB10.out.trans (hb6.mono HB10.out.size))
      have HBx6 := Lib.hid (HBx10.out.of (hb6.block _ HBx10.out.lt))
      have hnn : 0 + (n - t) + t = n := by omega
      rw [hnn]
      clear hown3 hgr3 hwh3 hown4 hgr4 hwh4 hown5 hb5 hb6 hge3 hs5 HIt2 HB10 HBx10 hnn
      refine hK.out _ _ trivial (fun _ => ?_)
      clear hK K
      simp only [Act.put, List.setIfInBounds_toArray, List.set_cons_zero, List.set_cons_succ]
      refine one_ready 9 rfl (by kernel_rfl) (fun K hK => ?_)
      go_simp
      refine hK.out _ _ trivial (fun _ => ?_)
      clear hK K
      refine wpAnyH_done (by kernel_rfl) ?_ _
      have c0 := HBx6.out.cell 0
      have c1 := HBx6.out.cell 1
      have c2 := HBx6.out.cell 2
      clear ho2 ho3 hpc hpl hgl
      go_wp2_with fail
      refine (HD.out w6 _ cap (mvy k) HIt6.out HY.out).mono ?_
      rintro e w7 ⟨oa, ga, Ba, capa, hoa, rfl, hira, hnuma, hb7⟩
      have HB7 := Lib.hid (HB6.out.trans (hb7.mono HB6.out.size))
      have HBx7 := Lib.hid (HBx6.out.of (hb7.block _ HBx6.out.lt))
      have HIt7 := Lib.hid ((HIt6.out.below hb7).more hb7.size)
      have HTu7 := Lib.hid ((HTu.out.below hb7).more hb7.size)
      have HPa := Lib.hid hira
      have HLa := Lib.hid hnuma
      have HOa := Lib.hid hoa
      clear hb7 hira hnuma hoa c0 c1 c2 HB6 HBx6 HIt6 HTu
      have c0 := HBx7.out.cell 0
      have c1 := HBx7.out.cell 1
      have c2 := HBx7.out.cell 2
      go_wp2_with fail
      refine (HD.out w7 _ cap4 (fun j => mvy k ((j + t) % n)) HTu7.out (fun j hj => HY.out _ (Nat.mod_lt _ (by omega)))).mono ?_
      rintro e w8 ⟨ob, gb, Bb, capb, hob, rfl, hirb, hnumb, hb8⟩
      have hlost := goes_turn (S := S) (D := D) (T := T) htn (fun j (_ : j < n) => rfl) (fun i j hi hj _ _ h => nid_ne (by omega) (by omega) h) HOa.out hob
      have HB8 := Lib.hid (HB7.out.trans (hb8.mono HB7.out.size))
      have HIt8 := Lib.hid ((HIt7.out.below hb8).more hb8.size)
      have HPa8 := Lib.hid (HPa.out.below hb8 (Nat.le_refl _))
      have HLa8 := Lib.hid ((HLa.out.below hb8).more hb8.size)
      have HPb := Lib.hid hirb
      have HLb := Lib.hid hnumb
      have HLt := Lib.hid hlost
      have HOb := Lib.hid hob
      clear hb8 hirb hnumb hob hlost c0 c1 c2 HB7 HBx7 HIt7 HTu7 HPa HLa HD
      obtain ⟨hl1e, hl2e⟩ := HLt.out
      have HG2 := Lib.hid hl2e
      have HLs := Lib.hid hl1e
      have hlb : ∀ x, x ∈ lostO (fun j => mvy k ((j + t) % n)) S D T ob → x < n := fun x hx => ((lost_mem HOb.out x).1 hx).1.1
      have HLm := Lib.hid hlb
      have HLa2 := Lib.hid (fun i => lost_mem (S := S) (D := D) (T := T) HOa.out i)
      have hlen : (lostO (mvy k) S D T oa).length = (lostO (fun j => mvy k ((j + t) % n)) S D T ob).length := by rw [hl1e, List.length_map]
      have hlq : (lostO (mvy k) S D T oa).length ≤ n := by
        have h := (lost_nodup (S := S) (D := D) (T := T) HOa.out).length_le_of_subset (l₂ := List.range n) fun x hx => List.mem_range.2 ((lost_mem HOa.out x).1 hx).1.1
        simpa using h
      have HOut := Lib.hid (fun i p (h : goes (mvy k) S D T oa i = some p) => (out_some (n := n) h))
      have HOut2 := Lib.hid (fun i p (h : goes (fun j => mvy k ((j + t) % n)) S D T ob i = some p) => (out_some (n := n) h))
      clear hl1e hl2e hlb HLt
      generalize lostO (mvy k) S D T oa = LA at *
      generalize lostO (fun j => mvy k ((j + t) % n)) S D T ob = LB at *
      rw [← hlen] at HLb ⊢
      have HLen := Lib.hid hlen
      clear hlen
      go_wp2_with fail
      go_loopw [17] (fun v wr => ∃ i : Nat, v = .int .i64 i ∧ i ≤ LA.length ∧ ∃ q, wr = w8.drewN q) (fun v _ => LA.length - (intOf v).toNat)
      case atStart => exact ⟨0, rfl, by omega, 0, rfl⟩
      case round =>
        obtain ⟨i, rfl, hi, hw⟩ := hrel
        have HW := Lib.hid hw
        obtain ⟨q, hq⟩ := hw
        by_cases hil : i < LA.length
        · obtain ⟨b1, o1, rfl, _, c1⟩ := (show Nums .i64 (w8.drewN q) _ Ba _ _ from HLa8.out).at hil
          obtain ⟨b2, o2, rfl, _, c2⟩ := (show Nums .i64 (w8.drewN q) _ Bb _ _ from HLb.out).at hil
          rw [← hq] at c1 c2
          have hil2 : i < LB.length := by rw [← HLen.out]; exact hil
          have e1 : LA.getD i 0 = (LB[i] + t) % n := by
            rw [getD_at hil]
            have := HLs.out
            subst this
            simp
          rw [getD_at hil2] at c2
          rw [e1] at c1
          have hbn := HLm.out LB[i] (List.getElem_mem hil2)
          have f1 : ((LB[i] : Int) + (t : Int)) % (n : Int) = (((LB[i] + t) % n : Nat) : Int) := by simp
          have f2 : Int.tmod ((LB[i] : Int) + (t : Int)) (n : Int) = (((LB[i] + t) % n : Nat) : Int) := rfl
          clear hq e1
          generalize LB[i] = bi at *
          have f3 : (bi + t) % n = (bi + t) % n := rfl
          generalize (bi + t) % n = r at *
          have hn0 : ¬ (n : Int) = 0 := by clear f1 f2; omega
          clear f3
          go_wp2_with fail
          go_quiet (fail)
          go_wp2_with fail
          go_roundw
          case rel =>
            obtain ⟨q, hq⟩ := HW.out
            exact ⟨i + 1, by go_num, by omega, q + nq, by rw [hq]; simp [World.drewN, Nat.add_assoc]⟩
          case measure => simp [intOf]; omega
        · have HBq := Lib.hid (show Below w.heap.size w wr by rw [hq]; exact below_drewN HB8.out q)
          have eil : i = LA.length := by omega
          clear hq
          obtain ⟨w9, h9⟩ : ∃ x, x = wr := ⟨_, rfl⟩
          subst h9
          subst eil
          clear hil hi
          go_wp2_with fail
          go_loopw [18] (fun v wr => ∃ i : Nat, v = .int .i64 i ∧ i ≤ n ∧ ∃ q, wr = w9.drewN q) (fun v _ => n - (intOf v).toNat)
          case atStart => exact ⟨0, rfl, by omega, 0, rfl⟩
          case round =>
            obtain ⟨i, rfl, hi, hw⟩ := hrel
            have HW2 := Lib.hid hw
            clear hw
            obtain ⟨w11, h11⟩ : ∃ x, x = wr := ⟨_, rfl⟩
            subst h11
            by_cases hin : i < n
            · go_wp2_with fail
              go_loopw [19, 20] (fun v19 v20 wr => ∃ j : Nat, v20 = .int .i64 j ∧ v19 = .bool (ms LA j i) ∧ j ≤ LA.length ∧ wr = w11) (fun _ v _ => LA.length - (intOf v).toNat)
              case atStart => exact ⟨0, rfl, by simp [ms], by omega, rfl⟩
              case round =>
                obtain ⟨j, rfl, rfl, hj, rfl⟩ := hrel
                obtain ⟨q2, hq2⟩ := HW2.out
                obtain ⟨q1, hq1⟩ := HW.out
                by_cases hjl : j < LA.length
                · obtain ⟨b1, o1, rfl, _, c1⟩ := (show Nums .i64 ((w8.drewN q1).drewN q2) _ Ba _ _ from HLa8.out).at hjl
                  rw [← hq1, ← hq2, getD_at hjl] at c1
                  have HSu := Lib.hid (ms_succ (List.getElem?_eq_getElem hjl) i)
                  clear hq1 hq2
                  generalize LA[j] = lj at *
                  cases hms : ms LA j i
                  · have HMs := Lib.hid hms
                    clear hms
                    by_cases hli : lj = i
                    · have d1 : ((lj : Int) == (i : Int)) = true := by rw [beq_iff_eq]; omega
                      have d2 : (lj == i) = true := by rw [beq_iff_eq]; exact hli
                      have HE : Hid (ms LA (j + 1) i = true) := Lib.hid (by rw [HSu.out, decide_eq_true hli, Bool.or_true])
                      clear hli
                      go_wp2_with fail
                      go_roundw
                      case rel => exact ⟨j + 1, by go_num, by rw [HE.out], by omega, trivial⟩
                      case measure => simp [intOf]; omega
                    · have d1 : ((lj : Int) == (i : Int)) = false := by rw [beq_eq_false_iff_ne]; omega
                      have d2 : (lj == i) = false := by rw [beq_eq_false_iff_ne]; exact hli
                      have HE : Hid (ms LA (j + 1) i = false) := Lib.hid (by rw [HSu.out, decide_eq_false hli, HMs.out]; rfl)
                      clear hli
                      go_wp2_with fail
                      go_roundw
                      case rel => exact ⟨j + 1, by go_num, by rw [HE.out], by omega, trivial⟩
                      case measure => simp [intOf]; omega
                  · have HE : Hid (ms LA (j + 1) i = true) := Lib.hid (by rw [HSu.out, hms, Bool.true_or])
                    clear hms
                    go_wp2_with fail
                    go_roundw
                    case rel => exact ⟨j + 1, by go_num, by rw [HE.out], by omega, trivial⟩
                    case measure => simp [intOf]; omega
                · have ejl : j = LA.length := by omega
                  subst ejl
                  rw [ms_all]
                  obtain ⟨b', off', ea, hbb, k0, k1⟩ := ((HIt8.out.drewN q1).drewN q2).at hin
                  cases ea
                  have cp := ((HPa8.out.drewN q1).drewN q2).cell i hin
                  rw [← hq1, ← hq2, Nat.zero_add] at k1
                  rw [← hq1, ← hq2] at cp
                  have HInv := Lib.hid (HLa2.out i)
                  clear k0 hjl hj
                  have hyd : (mvy k i).2 = (mvy k i).2 := rfl
                  cases hct : LA.contains i
                  · by_cases hneg : (mvy k i).2 < 0
                    · have d1 : decide (0 ≤ (mvy k i).2) = false := decide_eq_false (by omega)
                      generalize (mvy k i).2 = yd at *
                      clear hq1 hq2 cp hyd hct hneg
                      go_wp2_with fail
                      go_quiet (fail)
                      go_wp2_with fail
                      go_roundw
                      case rel =>
                        obtain ⟨q, hq⟩ := HW2.out
                        exact ⟨i + 1, by go_num, by omega, q + nq, by rw [hq]; simp [World.drewN, Nat.add_assoc]⟩
                      case measure => simp [intOf]; omega
                    · have hgo : ∃ p, goes (mvy k) S D T oa i = some p := by
                        cases hg : goes (mvy k) S D T oa i with
                        | some p => exact ⟨p, rfl⟩
                        | none =>
                          exfalso
                          have hm := HInv.out.2 ⟨⟨hin, by omega⟩, hg⟩
                          have : LA.contains i = true := by simpa using hm
                          rw [hct] at this; cases this
                      obtain ⟨p, hp⟩ := hgo
                      obtain ⟨js, hjs⟩ : ∃ js, (i + n - t) % n = js := ⟨_, rfl⟩
                      have hjn : js < n := by rw [← hjs]; exact Nat.mod_lt _ (by omega)
                      have hbk := turn_back (n := n) (t := t) (i := i) hin htn
                      rw [hjs] at hbk
                      have hg2 := HG2.out js hjn
                      rw [hbk, hp] at hg2
                      have cq := ((HPb.out.drewN q1).drewN q2).cell js hjn
                      rw [← hq1, ← hq2, HOut2.out js p hg2] at cq
                      rw [HOut.out i p hp] at cp
                      have d1 : decide (0 ≤ (mvy k i).2) = true := decide_eq_true (by omega)
                      have w1 : IntKind.i64.wrap ((i : Int) + (n : Int)) = (i : Int) + (n : Int) := by rw [IntKind.wrap_i64]; omega
                      have w2 : IntKind.i64.wrap ((i : Int) + (n : Int) - (t : Int)) = (i : Int) + (n : Int) - (t : Int) := by clear w1; rw [IntKind.wrap_i64]; omega
                      have f0 : (i : Int) + (n : Int) - (t : Int) = ((i + n - t : Nat) : Int) := by clear w1 w2; omega
                      have f2 : Int.tmod ((i : Int) + (n : Int) - (t : Int)) (n : Int) = (js : Int) := by rw [f0, ← hjs]; rfl
                      have f1 : ((i : Int) + (n : Int) - (t : Int)) % (n : Int) = (js : Int) := by rw [f0, ← hjs]; simp
                      have hn0 : ¬ (n : Int) = 0 := by clear w1 w2 f1 f2 f0; omega
                      have hn0' : ¬ n = 0 := by clear w1 w2 f1 f2 f0; omega
                      have w3 : IntKind.i64.wrap (js : Int) = (js : Int) := by clear w1 w2 f1 f2 f0; rw [IntKind.wrap_i64]; omega
                      clear hq1 hq2 hct hneg hp hg2 hbk hjs f0 hyd
                      generalize (mvy k i).2 = yd at *
                      go_wp2_with fail
                      refine held_s (S := fun w' => w'.cell? ⟨g, i * 2 + 1, none⟩ = some (.int .i64 yd) ∧ w'.cell? ⟨ga, i, none⟩ = some (.int .i64 (p : Int)) ∧ w'.cell? ⟨gb, js, none⟩ = some (.int .i64 (p : Int))) 27 rfl (by kernel_rfl) ⟨k1, cp, cq⟩ (fun hHeld => ?_)
                      clear k1 cp cq
                      simp only [Array.replicate_succ, Array.replicate_zero, List.push_toArray, List.nil_append, List.cons_append]
                      refine wpAnyH_take (i := 0) (oi := ⟨some 139, _, _, _, _, _⟩) (v := .slice (some ⟨g, 0, none⟩) n cap) rfl (by kernel_rfl) (by kernel_rfl) (by kernel_rfl) (fun _ _ _ h => h) (Or.inl ⟨by rfl, fun w' hw => by go_simp⟩) hHeld ?_
                      try simp only [Act.put, List.setIfInBounds_toArray, List.set_cons_zero, List.set_cons_succ]
                      refine wpAnyH_take (i := 1) (oi := ⟨some 140, _, _, _, _, _⟩) (v := .int .i64 (i : Int)) rfl (by kernel_rfl) (by kernel_rfl) (by kernel_rfl) (fun _ _ _ h => h) (Or.inl ⟨by rfl, fun w' hw => by go_simp⟩) hHeld ?_
                      try simp only [Act.put, List.setIfInBounds_toArray, List.set_cons_zero, List.set_cons_succ]
                      refine wpAnyH_take (i := 2) (oi := ⟨some 141, _, _, _, _, _⟩) (v := .pointer (some ⟨g, i * 2, none⟩)) rfl (by kernel_rfl) (by kernel_rfl) (by kernel_rfl) (fun _ _ _ h => h) (Or.inl ⟨by rfl, fun w' hw => by go_simp⟩) hHeld ?_
                      try simp only [Act.put, List.setIfInBounds_toArray, List.set_cons_zero, List.set_cons_succ]
                      refine wpAnyH_take (i := 3) (oi := ⟨some 142, _, _, _, _, _⟩) (v := .pointer (some ⟨g, i * 2 + 1, none⟩)) rfl (by kernel_rfl) (by kernel_rfl) (by kernel_rfl) (fun _ _ _ h => h) (Or.inl ⟨by rfl, fun w' hw => by go_simp⟩) hHeld ?_
                      try simp only [Act.put, List.setIfInBounds_toArray, List.set_cons_zero, List.set_cons_succ]
                      refine wpAnyH_take (i := 4) (oi := ⟨some 143, _, _, _, _, _⟩) (v := .int .i64 yd) rfl (by kernel_rfl) (by kernel_rfl) (by kernel_rfl) (fun _ _ _ h => h) (Or.inl ⟨by rfl, fun w' hw => by (obtain ⟨s1, s2, s3⟩ := hw; go_simp)⟩) hHeld ?_
                      try simp only [Act.put, List.setIfInBounds_toArray, List.set_cons_zero, List.set_cons_succ]
                      refine wpAnyH_take (i := 5) (oi := ⟨some 144, _, _, _, _, _⟩) (v := .bool true) rfl (by kernel_rfl) (by kernel_rfl) (by kernel_rfl) (fun _ _ _ h => h) (Or.inl ⟨by rfl, fun w' hw => by go_simp⟩) hHeld ?_
                      try simp only [Act.put, List.setIfInBounds_toArray, List.set_cons_zero, List.set_cons_succ]
                      refine wpAnyH_take (i := 6) (oi := ⟨some 145, _, _, _, _, _⟩) (v := .bool true) rfl (by kernel_rfl) (by kernel_rfl) (by kernel_rfl) (fun _ _ _ h => h) (Or.inl ⟨by rfl, fun w' hw => by go_simp⟩) hHeld ?_
                      try simp only [Act.put, List.setIfInBounds_toArray, List.set_cons_zero, List.set_cons_succ]
                      refine wpAnyH_take (i := 7) (oi := ⟨some 146, _, _, _, _, _⟩) (v := .bool false) rfl (by kernel_rfl) (by kernel_rfl) (by kernel_rfl) (fun _ _ _ h => h) (Or.inl ⟨by rfl, fun w' hw => by go_simp⟩) hHeld ?_
                      try simp only [Act.put, List.setIfInBounds_toArray, List.set_cons_zero, List.set_cons_succ]
                      refine wpAnyH_take (i := 8) (oi := ⟨some 147, _, _, _, _, _⟩) (v := .bool true) rfl (by kernel_rfl) (by kernel_rfl) (by kernel_rfl) (fun _ _ _ h => h) (Or.inl ⟨by rfl, fun w' hw => by go_simp⟩) hHeld ?_
                      try simp only [Act.put, List.setIfInBounds_toArray, List.set_cons_zero, List.set_cons_succ]
                      refine wpAnyH_take (i := 9) (oi := ⟨some 148, _, _, _, _, _⟩) (v := .bool true) rfl (by kernel_rfl) (by kernel_rfl) (by kernel_rfl) (fun _ _ _ h => h) (Or.inl ⟨by rfl, fun w' hw => by go_simp⟩) hHeld ?_
                      try simp only [Act.put, List.setIfInBounds_toArray, List.set_cons_zero, List.set_cons_succ]
                      refine wpAnyH_take (i := 10) (oi := ⟨some 149, _, _, _, _, _⟩) (v := .bool true) rfl (by kernel_rfl) (by kernel_rfl) (by kernel_rfl) (fun _ _ _ h => h) (Or.inl ⟨by rfl, fun w' hw => by go_simp⟩) hHeld ?_
                      try simp only [Act.put, List.setIfInBounds_toArray, List.set_cons_zero, List.set_cons_succ]
                      refine wpAnyH_take (i := 11) (oi := ⟨some 150, _, _, _, _, _⟩) (v := .slice (some ⟨ga, 0, none⟩) n n) rfl (by kernel_rfl) (by kernel_rfl) (by kernel_rfl) (fun _ _ _ h => h) (Or.inl ⟨by rfl, fun w' hw => by go_simp⟩) hHeld ?_
                      try simp only [Act.put, List.setIfInBounds_toArray, List.set_cons_zero, List.set_cons_succ]
                      refine wpAnyH_take (i := 12) (oi := ⟨some 151, _, _, _, _, _⟩) (v := .int .i64 (i : Int)) rfl (by kernel_rfl) (by kernel_rfl) (by kernel_rfl) (fun _ _ _ h => h) (Or.inl ⟨by rfl, fun w' hw => by go_simp⟩) hHeld ?_
                      try simp only [Act.put, List.setIfInBounds_toArray, List.set_cons_zero, List.set_cons_succ]
                      refine wpAnyH_take (i := 13) (oi := ⟨some 152, _, _, _, _, _⟩) (v := .pointer (some ⟨ga, i, none⟩)) rfl (by kernel_rfl) (by kernel_rfl) (by kernel_rfl) (fun _ _ _ h => h) (Or.inl ⟨by rfl, fun w' hw => by go_simp⟩) hHeld ?_
                      try simp only [Act.put, List.setIfInBounds_toArray, List.set_cons_zero, List.set_cons_succ]
                      refine wpAnyH_take (i := 14) (oi := ⟨some 153, _, _, _, _, _⟩) (v := .int .i64 (p : Int)) rfl (by kernel_rfl) (by kernel_rfl) (by kernel_rfl) (fun _ _ _ h => h) (Or.inl ⟨by rfl, fun w' hw => by (obtain ⟨s1, s2, s3⟩ := hw; go_simp)⟩) hHeld ?_
                      try simp only [Act.put, List.setIfInBounds_toArray, List.set_cons_zero, List.set_cons_succ]
                      refine wpAnyH_take (i := 15) (oi := ⟨some 154, _, _, _, _, _⟩) (v := .slice (some ⟨gb, 0, none⟩) n n) rfl (by kernel_rfl) (by kernel_rfl) (by kernel_rfl) (fun _ _ _ h => h) (Or.inl ⟨by rfl, fun w' hw => by go_simp⟩) hHeld ?_
                      try simp only [Act.put, List.setIfInBounds_toArray, List.set_cons_zero, List.set_cons_succ]
                      refine wpAnyH_take (i := 16) (oi := ⟨some 155, _, _, _, _, _⟩) (v := .int .i64 (i : Int)) rfl (by kernel_rfl) (by kernel_rfl) (by kernel_rfl) (fun _ _ _ h => h) (Or.inl ⟨by rfl, fun w' hw => by go_simp⟩) hHeld ?_
                      try simp only [Act.put, List.setIfInBounds_toArray, List.set_cons_zero, List.set_cons_succ]
                      refine wpAnyH_take (i := 17) (oi := ⟨some 156, _, _, _, _, _⟩) (v := .int .i64 (n : Int)) rfl (by kernel_rfl) (by kernel_rfl) (by kernel_rfl) (fun _ _ _ h => h) (Or.inl ⟨by rfl, fun w' hw => by go_simp⟩) hHeld ?_
                      try simp only [Act.put, List.setIfInBounds_toArray, List.set_cons_zero, List.set_cons_succ]
                      refine wpAnyH_take (i := 18) (oi := ⟨some 157, _, _, _, _, _⟩) (v := .int .i64 ((i : Int) + (n : Int))) rfl (by kernel_rfl) (by kernel_rfl) (by kernel_rfl) (fun _ _ _ h => h) (Or.inl ⟨by rfl, fun w' hw => by go_simp⟩) hHeld ?_
                      try simp only [Act.put, List.setIfInBounds_toArray, List.set_cons_zero, List.set_cons_succ]
                      refine wpAnyH_take (i := 19) (oi := ⟨some 158, _, _, _, _, _⟩) (v := .int .i64 (t : Int)) rfl (by kernel_rfl) (by kernel_rfl) (by kernel_rfl) (fun _ _ _ h => h) (Or.inl ⟨by rfl, fun w' hw => by go_simp⟩) hHeld ?_
                      try simp only [Act.put, List.setIfInBounds_toArray, List.set_cons_zero, List.set_cons_succ]
                      refine wpAnyH_take (i := 20) (oi := ⟨some 159, _, _, _, _, _⟩) (v := .int .i64 ((i : Int) + (n : Int) - (t : Int))) rfl (by kernel_rfl) (by kernel_rfl) (by kernel_rfl) (fun _ _ _ h => h) (Or.inl ⟨by rfl, fun w' hw => by go_simp⟩) hHeld ?_
                      try simp only [Act.put, List.setIfInBounds_toArray, List.set_cons_zero, List.set_cons_succ]
                      refine wpAnyH_take (i := 21) (oi := ⟨some 160, _, _, _, _, _⟩) (v := .int .i64 (n : Int)) rfl (by kernel_rfl) (by kernel_rfl) (by kernel_rfl) (fun _ _ _ h => h) (Or.inl ⟨by rfl, fun w' hw => by go_simp⟩) hHeld ?_
                      try simp only [Act.put, List.setIfInBounds_toArray, List.set_cons_zero, List.set_cons_succ]
                      refine wpAnyH_take (i := 22) (oi := ⟨some 161, _, _, _, _, _⟩) (v := .int .i64 (js : Int)) rfl (by kernel_rfl) (by kernel_rfl) (by kernel_rfl) (fun _ _ _ h => h) (Or.inl ⟨by rfl, fun w' hw => by go_simp⟩) hHeld ?_
                      try simp only [Act.put, List.setIfInBounds_toArray, List.set_cons_zero, List.set_cons_succ]
                      refine wpAnyH_take (i := 23) (oi := ⟨some 162, _, _, _, _, _⟩) (v := .pointer (some ⟨gb, js, none⟩)) rfl (by kernel_rfl) (by kernel_rfl) (by kernel_rfl) (fun _ _ _ h => h) (Or.inl ⟨by rfl, fun w' hw => by go_simp⟩) hHeld ?_
                      try simp only [Act.put, List.setIfInBounds_toArray, List.set_cons_zero, List.set_cons_succ]
                      refine wpAnyH_take (i := 24) (oi := ⟨some 163, _, _, _, _, _⟩) (v := .int .i64 (p : Int)) rfl (by kernel_rfl) (by kernel_rfl) (by kernel_rfl) (fun _ _ _ h => h) (Or.inl ⟨by rfl, fun w' hw => by (obtain ⟨s1, s2, s3⟩ := hw; go_simp)⟩) hHeld ?_
                      try simp only [Act.put, List.setIfInBounds_toArray, List.set_cons_zero, List.set_cons_succ]
                      refine wpAnyH_take (i := 25) (oi := ⟨some 164, _, _, _, _, _⟩) (v := .bool false) rfl (by kernel_rfl) (by kernel_rfl) (by kernel_rfl) (fun _ _ _ h => h) (Or.inl ⟨by rfl, fun w' hw => by go_simp⟩) hHeld ?_
                      try simp only [Act.put, List.setIfInBounds_toArray, List.set_cons_zero, List.set_cons_succ]
                      refine wpAnyH_take (i := 26) (oi := ⟨some 165, _, _, _, _, _⟩) (v := .bool false) rfl (by kernel_rfl) (by kernel_rfl) (by kernel_rfl) (fun _ _ _ h => h) (Or.inl ⟨by rfl, fun w' hw => by go_simp⟩) hHeld ?_
                      try simp only [Act.put, List.setIfInBounds_toArray, List.set_cons_zero, List.set_cons_succ]
                      refine wpAnyH_done (by kernel_rfl) ?_ _
                      clear hHeld w1 w2 w3 f1 f2
                      go_wp2_with fail
                      go_roundw
                      case rel =>
                        obtain ⟨q, hq⟩ := HW2.out
                        exact ⟨i + 1, by go_num, by omega, q + 1, by rw [hq]; simp [World.drewN, World.drew, Nat.add_assoc]⟩
                      case measure => simp [intOf]; omega
                  · cases hneg : decide (0 ≤ (mvy k i).2)
                    · generalize (mvy k i).2 = yd at *
                      clear hq1 hq2 cp hyd hct
                      go_wp2_with fail
                      go_quiet (fail)
                      go_wp2_with fail
                      go_roundw
                      case rel =>
                        obtain ⟨q, hq⟩ := HW2.out
                        exact ⟨i + 1, by go_num, by omega, q + nq, by rw [hq]; simp [World.drewN, Nat.add_assoc]⟩
                      case measure => simp [intOf]; omega
                    · generalize (mvy k i).2 = yd at *
                      clear hq1 hq2 cp hyd hct
                      go_wp2_with fail
                      go_quiet (fail)
                      go_wp2_with fail
                      go_roundw
                      case rel =>
                        obtain ⟨q, hq⟩ := HW2.out
                        exact ⟨i + 1, by go_num, by omega, q + nq, by rw [hq]; simp [World.drewN, Nat.add_assoc]⟩
                      case measure => simp [intOf]; omega
            · have ein : i = n := by omega
              have HBe : Hid (Below w.heap.size w w11) := Lib.hid (by obtain ⟨q, hq⟩ := HW2.out; rw [hq]; exact below_drewN HBq.out q)
              subst ein
              clear hin hi
              go_wp2_with fail
              go_ret
              exact ⟨rfl, HBe.out⟩
set_option maxRecDepth 8000 in
theorem moved_law (D S T : Int) (nl c : Nat) (a : Option Addr) (y : Nat → It) (by' : Int) (w : World) (hI : Its w w.heap.size a nl y) (hy : ∀ j, j < nl → ItOk (y j)) :
    Calls Try.prog 6 #[.agg #[.int .i64 D, .int .i64 S, .int .i64 T], .slice a nl c, .int .i64 by'] w fun e w' => e = .returned (.bool true) ∧ Below w.heap.size w w' := by
  by_cases hall : isSh D S T = true ∧ nl ≤ 100
  · obtain ⟨d, s, t, rfl, rfl, rfl, h1, h2, h3, h4, h5⟩ := (isSh_iff D S T).1 hall.1
    exact moved_in d s t _ _ nl c a y by' w h1 h2 h3 h4 h5 rfl rfl hI hy hall.2
  · have hor : isSh D S T = false ∨ (isSh D S T = true ∧ 100 < nl) := by
      cases h : isSh D S T
      · exact .inl rfl
      · exact .inr ⟨rfl, Nat.lt_of_not_le fun h2 => hall ⟨h, h2⟩⟩
    clear hall hI hy
    have HR := Lib.hid (fun W => (deal_right D S T W))
    rcases hor with hsh | ⟨hsh, hnl⟩
    · rw [hsh] at HR
      clear hsh
      go_enter Try.func6, Try.ntmps6
      go_wp2_with fail
      refine (shown_any _).mono ?_
      rintro e w1 ⟨rfl, hb1⟩
      have hbx := (Box.new w 23 #[.int .i64 D, .int .i64 S, .int .i64 T]).of (hb1.block _ (by simp))
      have HB := Lib.hid (((Below.refl _ w).alloc (Nat.le_refl _) (.cells #[.int .i64 D, .int .i64 S, .int .i64 T] 23)).trans (hb1.mono (by simp)))
      have c0 := hbx.cell 0
      have c1 := hbx.cell 1
      have c2 := hbx.cell 2
      clear hb1 hbx
      go_wp2_with fail
      refine (HR.out _).mono ?_
      rintro e w2 ⟨rfl, hb2⟩
      have HB2 := Lib.hid (HB.out.trans (hb2.mono HB.out.size))
      clear hb2 HB
      go_wp2_with fail
      go_ret
      exact ⟨rfl, HB2.out⟩
    · rw [hsh] at HR
      have hnl2 : (100 : Int) < (nl : Int) := by omega
      clear hsh
      go_enter Try.func6, Try.ntmps6
      go_wp2_with fail
      refine (shown_any _).mono ?_
      rintro e w1 ⟨rfl, hb1⟩
      have hbx := (Box.new w 23 #[.int .i64 D, .int .i64 S, .int .i64 T]).of (hb1.block _ (by simp))
      have HB := Lib.hid (((Below.refl _ w).alloc (Nat.le_refl _) (.cells #[.int .i64 D, .int .i64 S, .int .i64 T] 23)).trans (hb1.mono (by simp)))
      have c0 := hbx.cell 0
      have c1 := hbx.cell 1
      have c2 := hbx.cell 2
      clear hb1 hbx
      go_wp2_with fail
      refine (HR.out _).mono ?_
      rintro e w2 ⟨rfl, hb2⟩
      have HB2 := Lib.hid (HB.out.trans (hb2.mono HB.out.size))
      clear hb2 HB
      go_wp2_with fail
      go_ret
      exact ⟨rfl, HB2.out⟩
end Go.Proofs.Ythnpfnefmmlajaa
