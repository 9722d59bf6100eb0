/- The law PolicyBatches, walked: for every capacity, batch and number, whichever are expired, it returns true, and nothing that was in memory changes. Conditions: the numbers are ints. -/
import Derived.Test.YtigifbijmchdcaaPolRows
import Derived.Test.YtigifbijmchdcaaPolMore
import Derived.Test.YtigifbijmchdcaaBools
import Derived.Test.YtigifbijmchdcaaGrow
import Derived.Deep.Cut
import Derived.Deep.CutRange
import Derived.Deep.QuietTactic
namespace Go.Proofs.Ytigifbijmchdcaa
open Go.RowKit Go.ChangeShapes Go.WideShapes Go.ChangeAt

def atL (l : List Pi) (j : Nat) : Pi := l.getD j (0, 0, false)
theorem lsP_atL (l : List Pi) : lsP l.length (atL l) = l := by
  apply List.ext_getElem
  · rw [lsP_len]
  · intro i h1 h2
    simp [lsP, atL, h2]
/-- Those that stay. -/
def stays (V : List Int) (x : Pi) : Bool := !decide (x.1 ∈ V)
theorem stays_len {l : List Pi} {c b : Int} (h : (l.map (·.1)).Nodup) : (l.filter (stays (victims l c b))).length + kMany l c b = l.length := by
  have h1 : ((l.filter fun x => decide (x.1 ∈ victims l c b)).map (·.1)).Perm (victims l c b) := by
    rw [List.perm_ext_iff_of_nodup]
    · intro v
      simp only [List.mem_map, List.mem_filter, decide_eq_true_eq]
      refine ⟨fun ⟨x, ⟨_, hx⟩, e⟩ => by rw [← e]; exact hx, fun hv => ?_⟩
      obtain ⟨x, hx, e⟩ := List.mem_map.1 (vic_mem hv)
      exact ⟨x, ⟨hx, by rw [e]; exact hv⟩, e⟩
    · exact h.sublist (List.filter_sublist.map _)
    · exact vic_nodup h
  have h2 := h1.length_eq
  rw [List.length_map, victims_len] at h2
  have h3 := (List.filter_append_perm (fun x : Pi => decide (x.1 ∈ victims l c b)) l).length_eq
  rw [List.length_append] at h3
  have h4 : (l.filter fun x => !decide (x.1 ∈ victims l c b)) = l.filter (stays (victims l c b)) := rfl
  rw [h4] at h3
  omega
/-- What is known of the entries between two rounds. -/
structure BtInv (c b i : Nat) (l : List Pi) : Prop where
  nd : (l.map (·.1)).Nodup
  lt : ∀ x ∈ l, x.1 < (i : Int)
  few : l.length ≤ c + i % b
theorem BtInv.nil (c b : Nat) : BtInv c b 0 [] := ⟨List.nodup_nil, by simp, by simp⟩
section
variable {c b i : Nat} {l : List Pi} {x : Pi}
theorem BtInv.snoc (h : BtInv c b i l) (hx : x.1 = (i : Int)) : ((l ++ [x]).map (·.1)).Nodup ∧ ∀ y ∈ l ++ [x], y.1 < ((i + 1 : Nat) : Int) := by
  refine ⟨?_, fun y hy => ?_⟩
  · rw [List.map_append, List.nodup_append]
    refine ⟨h.nd, by simp, fun p hp q hq e => ?_⟩
    obtain ⟨y, hy, rfl⟩ := List.mem_map.1 hp
    simp only [List.map_cons, List.map_nil, List.mem_singleton] at hq
    have := h.lt y hy
    omega
  · rcases List.mem_append.1 hy with h1 | h1
    · have := h.lt y h1; omega
    · rw [List.mem_singleton.1 h1]; omega
theorem BtInv.more (h : BtInv c b i l) (hx : x.1 = (i : Int)) (hb : 0 < b) (hm : (i + 1) % b ≠ 0) : BtInv c b (i + 1) (l ++ [x]) := by
  obtain ⟨h1, h2⟩ := h.snoc hx
  refine ⟨h1, h2, ?_⟩
  have := h.few
  have hlt := Nat.mod_lt i hb
  rw [List.length_append, List.length_singleton]
  have : (i + 1) % b = i % b + 1 := by
    rw [Nat.add_mod]
    by_cases h1b : b = 1
    · subst h1b; omega
    · rw [Nat.mod_eq_of_lt (show 1 < b by omega)]
      by_cases h9 : i % b + 1 < b
      · exact Nat.mod_eq_of_lt h9
      · have : i % b + 1 = b := by omega
        rw [Nat.add_mod, Nat.mod_eq_of_lt (show 1 < b by omega), this, Nat.mod_self] at hm
        exact absurd rfl hm
  omega
theorem BtInv.last (h : BtInv c b i l) (hx : x.1 = (i : Int)) (hb : 0 < b) (hc : c ≤ 1000) (hb2 : b ≤ 1000) (hm : (i + 1) % b = 0) :
    BtInv c b (i + 1) ((l ++ [x]).filter (stays (victims (l ++ [x]) c b))) ∧ ((l ++ [x]).filter (stays (victims (l ++ [x]) c b))).length ≤ c := by
  obtain ⟨h1, h2⟩ := h.snoc hx
  have hl : (l ++ [x]).length ≤ c + b := by
    have := h.few
    have hlt := Nat.mod_lt i hb
    rw [List.length_append, List.length_singleton]; omega
  have hf := many_fits hl hc hb2
  have hs := stays_len (c := c) (b := b) h1
  have hlen : ((l ++ [x]).filter (stays (victims (l ++ [x]) c b))).length ≤ c := by omega
  exact ⟨⟨h1.sublist (List.filter_sublist.map _), fun y hy => h2 y (List.mem_filter.1 hy).1, by rw [hm]; omega⟩, hlen⟩
end
theorem PtAt.rebase {t : TypeId} {w1 w4 wr : World} {v : Value} {l : List Pi} (h : PtAt t w4 v l wr) (hb : Below w1.heap.size w1 w4) : PtAt t w1 v l wr := by
  have hs := hb.size
  refine ⟨⟨h.own.1, ?_⟩, hb.trans (h.below.mono hs)⟩
  rcases h.own.2 with h0 | ⟨g, cap, cur, rfl, h1, h2⟩
  · exact .inl h0
  · exact .inr ⟨g, cap, cur, rfl, by omega, h2⟩
theorem PtAt.outL {t : TypeId} {w1 wr : World} {v : Value} {l : List Pi} (h : PtAt t w1 v l wr) : ∃ A cap, v = .slice A l.length cap ∧ (A = none → l.length = 0 ∧ cap = 0) ∧ Pits wr wr.heap.size A l.length (atL l) := by
  have h' : PtAt t w1 v (lsP l.length (atL l)) wr := by rw [lsP_atL]; exact h
  exact h'.out
theorem filter_take_succ {l : List Pi} {p : Pi → Bool} {k : Nat} (hk : k < l.length) : (l.take (k + 1)).filter p = (l.take k).filter p ++ if p (atL l k) then [atL l k] else [] := by
  rw [List.take_add_one, List.getElem?_eq_getElem hk, List.filter_append]
  have : atL l k = l[k] := by simp [atL, hk]
  rw [this]
  show _ ++ [l[k]].filter p = _
  cases h : p l[k] <;> simp [h]
def tkd (V : List Int) (j : Nat) (v : Int) : Bool := decide (v ∈ V.take j)
theorem tkd_succ {V : List Int} {j : Nat} (hj : j < V.length) (v : Int) : tkd V (j + 1) v = (tkd V j v || (V.getD j 0 == v)) := by
  have hq : V[j]? = some (V.getD j 0) := by rw [List.getD_eq_getElem?_getD, List.getElem?_eq_getElem hj]; rfl
  unfold tkd
  rw [List.take_add_one, hq, Bool.eq_iff_iff]
  simp only [Option.toList, List.mem_append, List.mem_singleton, decide_eq_true_eq, Bool.or_eq_true, beq_iff_eq]
  exact ⟨fun h => h.elim .inl (fun e => .inr e.symm), fun h => h.elim .inl (fun e => .inr e.symm)⟩
set_option maxRecDepth 100000 in
set_option maxHeartbeats 8000000 in
theorem batches_law (m0 m1 m2 : Int) (a3 : Option Addr) (nx cx : Nat) (ze : Nat → Bool) (w : World) (h0 : -9223372036854775808 ≤ m0 ∧ m0 ≤ 9223372036854775807) (h1 : -9223372036854775808 ≤ m1 ∧ m1 ≤ 9223372036854775807) (hze : Bools w w.heap.size a3 nx ze) :
    Calls Try.prog 6 #[.int .i64 m0, .int .i64 m1, .int .i64 m2, .slice a3 nx cx] w fun e w' => e = .returned (.bool true) ∧ Below w.heap.size w w' := by
  have HZE := Lib.hid hze
  have HPc := Lib.hid (fun W => ppik_any m0 20 W (by decide) (by decide) h0.1 h0.2)
  have HPb := Lib.hid (fun W => ppik_any m1 8 W (by decide) (by decide) h1.1 h1.2)
  have hc9 := ppik_lt m0 (n := 20) (by decide)
  have hb9 := ppik_lt m1 (n := 8) (by decide)
  generalize ppik m0 20 = c at *
  generalize ppik m1 8 = pb at *
  obtain ⟨b, hb⟩ : ∃ b, b = 1 + pb := ⟨_, rfl⟩
  have hbz : (1 : Int) + (pb : Int) = (b : Int) := by omega
  have hb0 : 0 < b := by omega
  have hb8 : b ≤ 8 := by omega
  clear hze h0 h1 hb
  go_enter Try.func6, Try.ntmps6
  go_wp2_with fail
  refine (pshown_any _).mono ?_
  rintro e w2 ⟨rfl, hb1⟩
  have HW1 := Lib.hid hb1
  clear hb1
  go_wp2_with fail
  refine (HPc.out _).mono ?_
  rintro e w3 ⟨rfl, rfl⟩
  go_wp2_with fail
  refine (HPb.out _).mono ?_
  rintro e w4 ⟨rfl, rfl⟩
  clear HPc HPb
  by_cases g1 : m2 < 0
  · go_wp2_with fail
    all_goals
      go_ret
      exact ⟨rfl, HW1.out⟩
  by_cases g2 : m2 > 60
  · go_wp2_with fail
    all_goals
      go_ret
      exact ⟨rfl, HW1.out⟩
  obtain ⟨n, rfl⟩ := Int.eq_ofNat_of_zero_le (a := m2) (by omega)
  have d1 : decide ((n : Int) < 0) = false := decide_eq_false (by omega)
  have d2 : decide ((60 : Int) < (n : Int)) = false := decide_eq_false (by omega)
  have HS0 : Hid (PtAt 29 w4 (.slice none 0 0) [] w4) := PtAt.nil _ _
  have hn60 : n ≤ 60 := by omega
  go_wp2_with fail
  go_loopw [12, 13, 14, 15, 16, 17, 18] (fun v12 v13 _ _ _ _ _ wr => ∃ (i : Nat) (l : List Pi), v13 = .int .i64 i ∧ i ≤ n ∧ BtInv c b i l ∧ PtAt 29 w4 v12 l wr) (fun _ v _ _ _ _ _ _ => n - (intOf v).toNat)
  case atStart => exact ⟨0, [], rfl, by omega, BtInv.nil c b, HS0.out⟩
  case round =>
    clear HS0
    obtain ⟨i, l, rfl, hle, hI, hS⟩ := hrel
    have HI := Lib.hid hI
    have HS := Lib.hid hS
    obtain ⟨w5, h5⟩ : ∃ x, x = wr := ⟨_, rfl⟩
    subst h5
    by_cases hin : i < n
    · have hinz : (i : Int) < (n : Int) := by omega
      have hind : decide ((i : Int) < (n : Int)) = true := decide_eq_true hinz
      have hfew := hI.few
      have hmb := Nat.mod_lt i hb0
      have hll : l.length ≤ 30 := by omega
      have hw1 : IntKind.i64.wrap (1000 - (i : Int)) = 1000 - (i : Int) := by rw [IntKind.wrap_i64]; omega
      have hw2 : IntKind.u64.wrap (1000 - (i : Int)) = ((1000 - i : Nat) : Int) := by rw [IntKind.wrap_u64]; omega
      obtain ⟨r, hr⟩ : ∃ r, r = 1000 - i := ⟨_, rfl⟩
      rw [← hr] at hw2
      obtain ⟨rm, hrm⟩ : ∃ rm, rm = (i + 1) % b := ⟨_, rfl⟩
      have HRM := Lib.hid hrm
      have hmod : ((i : Int) + 1).tmod (b : Int) = (rm : Int) := by
        rw [hrm]
        rw [Int.tmod_eq_emod_of_nonneg (by omega), Int.natCast_emod]; rfl
      have hbn : ¬ (b : Int) = 0 := by omega
      obtain ⟨ex, hex⟩ : ∃ ex, ex = (decide (i < nx) && ze i) := ⟨_, rfl⟩
      have hw4 := HW1.out.size
      have hs5 := hS.below.size
      have hAp : ∀ W (h : Below w5.heap.size w5 W), PtAt 29 w4 u12 l W := fun W h => hS.grow h
      clear hI hr hrm
      go_upto_region 10 with fail
      go_cut [12] from 36 to 122 (fun v wx => Hid (PtAt 29 w4 v (l ++ [((i : Int), r, ex)]) wx))
      case first =>
        have hbs : w.heap.size ≤ w5.heap.size := by omega
        have hn3 : ∀ j u, [Value.int .i64 (i : Int), .int .u64 (r : Int), .bool ex][j]? = some u → (w5.alloc (.cells #[.int .i64 (i : Int), .int .u64 (r : Int), .bool ex] 29)).cell? ((⟨w5.heap.size, 0, none⟩ : Addr).add j) = some u := new_three w5 _ _ _ _ rfl
        have HN3 := Lib.hid hn3
        have HO := Lib.hid (row_keep HS.out.own (fun g hg => Below.heap_alloc w5 (.cells #[.int .i64 (i : Int), .int .u64 (r : Int), .bool ex] 29) g (own_lt HS.out.own hg).2))
        have HEX := Lib.hid hex
        clear hn3 hAp hex
        by_cases hnx : i < nx
        · have hnz : (i : Int) < (nx : Int) := by omega
          obtain ⟨be, oe, rfl, hbe, ce0⟩ := (HZE.out.below (HW1.out.trans (HS.out.below.mono hw4))) (by omega)
          have ce := ce0 i hnx
          clear ce0
          have hze : ze i = ex := by rw [HEX.out, decide_eq_true hnx]; rfl
          rw [hze] at ce
          clear hze
          go_wp2_with (with_reducible refine wpList_append_where _ rfl (.tmp 41) (.tmp 57) 22 rfl w4.heap.size 29 (.agg #[.int .i64 0, .int .u64 0, .bool false]) 3 24 Try.underlying22 infoPit rfl (by decide) u12 l.length (pil l) rfl HO.out ⟨w5.heap.size, 0, none⟩ 1 1 [.int .i64 (i : Int), .int .u64 (r : Int), .bool ex] rfl rfl ?c0 ?c1 ?c2 ?c3 ?c4 ?_)
          first | (case c0 => exact HN3.out) | skip
          case c1 => simp [Value.oneCell']
          case c2 => simp only [maxLen]; omega
          case c3 => omega
          case c4 => first | omega | (simp; omega)
          intro A2 cap2 w7 hown hgr _
          have HS7 : Hid (PtAt 29 w4 (.slice A2 (l.length + 1) cap2) (l ++ [((i : Int), r, ex)]) w7) := HS.out.next (x := ((i : Int), r, ex)) hown hgr
          clear hown hgr
          go_wp2_with fail
          go_meet
          case rel => exact HS7
        · have hnz : ¬ (i : Int) < (nx : Int) := by omega
          have hxf : ex = false := by rw [HEX.out, decide_eq_false hnx]; rfl
          subst hxf
          go_wp2_with (with_reducible refine wpList_append_where _ rfl (.tmp 41) (.tmp 57) 22 rfl w4.heap.size 29 (.agg #[.int .i64 0, .int .u64 0, .bool false]) 3 24 Try.underlying22 infoPit rfl (by decide) u12 l.length (pil l) rfl HO.out ⟨w5.heap.size, 0, none⟩ 1 1 [.int .i64 (i : Int), .int .u64 (r : Int), .bool false] rfl rfl ?c0 ?c1 ?c2 ?c3 ?c4 ?_)
          first | (case c0 => exact HN3.out) | skip
          case c1 => simp [Value.oneCell']
          case c2 => simp only [maxLen]; omega
          case c3 => omega
          case c4 => first | omega | (simp; omega)
          intro A2 cap2 w7 hown hgr _
          have HS7 : Hid (PtAt 29 w4 (.slice A2 (l.length + 1) cap2) (l ++ [((i : Int), r, false)]) w7) := HS.out.next (x := ((i : Int), r, false)) hown hgr
          clear hown hgr
          go_wp2_with fail
          go_meet
          case rel => exact HS7
      case rest =>
        obtain ⟨L, hL⟩ : ∃ L, L = l ++ [((i : Int), r, ex)] := ⟨_, rfl⟩
        have HC := Lib.hid hcut.out
        have hx1 : (((i : Int), r, ex) : Pi).1 = (i : Int) := rfl
        have HIm : Hid ((i + 1) % b ≠ 0 → BtInv c b (i + 1) L) := fun h => by rw [hL]; exact HI.out.more hx1 hb0 h
        have HIl : Hid ((i + 1) % b = 0 → BtInv c b (i + 1) (L.filter (stays (victims L c b))) ∧ (L.filter (stays (victims L c b))).length ≤ c) := fun h => by rw [hL]; exact HI.out.last hx1 hb0 (by omega) (by omega) h
        have hnd : (L.map (·.1)).Nodup := by rw [hL]; exact (HI.out.snoc hx1).1
        have HLen := Lib.hid (stays_len (c := c) (b := b) hnd)
        have hLl : L.length = l.length + 1 := by rw [hL, List.length_append]; rfl
        rw [← hL] at HC
        clear hL hcut hnd hx1 HI HS hAp hex
        obtain ⟨A, cp, rfl, hA, hP⟩ := HC.out.outL
        obtain ⟨nL, hnL⟩ : ∃ nL, nL = L.length := ⟨_, rfl⟩
        rw [← hnL] at hA hP HC hLl ⊢
        have HNL := Lib.hid hnL
        have hg1 : ¬ (nL : Int) > (c : Int) + (b : Int) := by omega
        have hg2 : decide ((c : Int) + (b : Int) < (nL : Int)) = false := decide_eq_false (by omega)
        have hn31 : nL ≤ 31 := by omega
        obtain ⟨w6, h6⟩ : ∃ x, x = wc := ⟨_, rfl⟩
        subst h6
        have HB6 : Hid (Below w.heap.size w w6) := HW1.out.trans (HC.out.below.mono hw4)
        have HV := Lib.hid (victims_any A nL cp (atL L) c b w6 (by omega) hA hP)
        have HP := Lib.hid hP
        clear hA hP hnL hLl hfew hmb hll
        by_cases hm : rm = 0
        · have hmz : ((rm : Int) != 0) = false := by rw [hm]; rfl
          have HIe := Lib.hid (HIl.out (by rw [← HRM.out]; exact hm))
          clear hm
          clear HIm HIl
          rw [show lsP nL (atL L) = L by rw [HNL.out]; exact lsP_atL L] at HV
          unfold VicPost at HV
          obtain ⟨K, hK⟩ : ∃ K, K = kMany L c b := ⟨_, rfl⟩
          have hKn : K ≤ nL := by rw [hK, HNL.out]; exact kMany_le L c b
          have hVl := victims_len L c b
          rw [← hK] at HV HLen hVl
          generalize victims L c b = V at *
          rw [← HNL.out] at HLen
          have HVl := Lib.hid hVl
          clear hK hVl
          go_wp2_with fail
          refine HV.out.mono ?_
          rintro e w7 ⟨gv, rfl, hir, hb7⟩
          have HI7 := Lib.hid hir
          have HB7 := Lib.hid (HB6.out.trans (hb7.mono HB6.out.size))
          have HP7 : Hid (Pits w7 w7.heap.size A nL (atL L)) := (HP.out.below hb7).more hb7.size
          have HR7 : Hid (Below w4.heap.size w4 w7) := HC.out.below.trans (hb7.mono HC.out.below.size)
          have HS7 : Hid (PtAt 29 w7 (.slice none 0 0) ((L.take 0).filter (stays V)) w7) := PtAt.nil _ _
          have hgv7 := hir.lt
          clear hir hb7 HV HP HC HB6
          go_wp2_with fail
          go_loopw [15, 16, 17, 18] (fun v15 v16 _ _ wr => ∃ k : Nat, v16 = .int .i64 k ∧ k ≤ nL ∧ PtAt 29 w7 v15 ((L.take k).filter (stays V)) wr) (fun _ v _ _ _ => nL - (intOf v).toNat)
          case atStart => exact ⟨0, rfl, by omega, HS7.out⟩
          case round =>
            clear HS7
            obtain ⟨k, rfl, hk, hS8⟩ := hrel
            have HS8 := Lib.hid hS8
            obtain ⟨w8, h8⟩ : ∃ x, x = wr := ⟨_, rfl⟩
            subst h8
            by_cases hkn : k < nL
            · have hkz : (k : Int) < (nL : Int) := by omega
              have hkd : decide ((k : Int) < (nL : Int)) = true := decide_eq_true hkz
              have hKl : k < L.length := by rw [← HNL.out]; exact hkn
              have HF := Lib.hid (filter_take_succ (p := stays V) hKl)
              have hfl : ((L.take k).filter (stays V)).length ≤ k := Nat.le_trans (List.length_filter_le _ _) (by rw [List.length_take]; omega)
              obtain ⟨b8, o8, rfl, hb8, q0, q1, q2⟩ := (HP7.out.below hS8.below).at hkn
              have hs8 := hS8.below.size
              have hbw8 : b8 < w8.heap.size := by omega
              have hst : stays V (atL L k) = !decide ((atL L k).1 ∈ V) := rfl
              have HST := Lib.hid hst
              generalize atL L k = x at *
              generalize (L.take k).filter (stays V) = F at *
              obtain ⟨x1, x2, x3⟩ := x
              dsimp only at q0 q1 q2 HST
              have Q0 := Lib.hid q0
              have Q1 := Lib.hid q1
              have Q2 := Lib.hid q2
              clear q0 q1 q2 hst hKl hS8
              go_wp2_with fail
              go_loopw [17, 18] (fun v17 v18 wx => ∃ j : Nat, v17 = .bool (tkd V j x1) ∧ v18 = .int .i64 j ∧ j ≤ K ∧ Below w8.heap.size w8 wx) (fun _ v _ => K - (intOf v).toNat)
              case atStart => exact ⟨0, by simp [tkd], rfl, by omega, Below.refl _ _⟩
              case round =>
                obtain ⟨j, rfl, rfl, hj, hbx⟩ := hrel
                have HBX := Lib.hid hbx
                clear hbx
                have c0 : wr.cell? ⟨b8, o8 + k * 3, none⟩ = some (.int .i64 x1) := (HBX.out.cell (p := ⟨b8, o8 + k * 3, none⟩) hbw8).trans Q0.out
                by_cases hjK : j < K
                · have hjl : j < V.length := by rw [HVl.out]; exact hjK
                  have hjz : (j : Int) < (K : Int) := by omega
                  have HT := Lib.hid (tkd_succ hjl x1)
                  have cv : wr.cell? ⟨gv, j, none⟩ = some (.int .i64 (V.getD j 0)) := (HBX.out.cell (p := ⟨gv, j, none⟩) (by show gv < w8.heap.size; omega)).trans ((HS8.out.below.cell (p := ⟨gv, j, none⟩) hgv7).trans (HI7.out.cell j hjK))
                  obtain ⟨vj, hvj⟩ : ∃ v, V.getD j 0 = v := ⟨_, rfl⟩
                  rw [hvj] at cv HT
                  clear hvj
                  cases htk : tkd V j x1
                  · rw [htk, Bool.false_or] at HT
                    go_upto_region 23 with fail
                    have p0 := Gr.cell c0
                    have p1 := Gr.cell cv
                    clear c0 cv
                    refine wp_region_grow (by kernel_rfl) (by kernel_rfl) ?_
                    repeat (go_big_quiet_step (first | fail))
                    refine wpQuiet_nil ?_
                    intro w12 hw12
                    obtain ⟨G, hG⟩ := hw12
                    subst hG
                    have HBG := Lib.hid (HBX.out.trans (G.ok.none.mono HBX.out.size))
                    clear p0 p1
                    go_wp2_with fail
                    go_roundw
                    case rel => exact ⟨j + 1, by rw [HT.out], by go_num, by omega, HBG.out⟩
                    case measure => simp [intOf]; omega
                  · rw [htk, Bool.true_or] at HT
                    go_upto_region 23 with fail
                    have p0 := Gr.cell c0
                    have p1 := Gr.cell cv
                    clear c0 cv
                    refine wp_region_grow (by kernel_rfl) (by kernel_rfl) ?_
                    repeat (go_big_quiet_step (first | fail))
                    refine wpQuiet_nil ?_
                    intro w12 hw12
                    obtain ⟨G, hG⟩ := hw12
                    subst hG
                    have HBG := Lib.hid (HBX.out.trans (G.ok.none.mono HBX.out.size))
                    clear p0 p1
                    go_wp2_with fail
                    go_roundw
                    case rel => exact ⟨j + 1, by rw [HT.out], by go_num, by omega, HBG.out⟩
                    case measure => simp [intOf]; omega
                · obtain rfl : j = K := by omega
                  have htd : tkd V j x1 = decide (x1 ∈ V) := by unfold tkd; rw [List.take_of_length_le (by rw [HVl.out]; exact Nat.le_refl _)]
                  rw [htd]
                  have HS9 := Lib.hid (HS8.out.grow HBX.out)
                  have c1 : wr.cell? ⟨b8, o8 + k * 3 + 1, none⟩ = some (.int .u64 (x2 : Int)) := (HBX.out.cell (p := ⟨b8, o8 + k * 3 + 1, none⟩) hbw8).trans Q1.out
                  have c2 : wr.cell? ⟨b8, o8 + k * 3 + 2, none⟩ = some (.bool x3) := (HBX.out.cell (p := ⟨b8, o8 + k * 3 + 2, none⟩) hbw8).trans Q2.out
                  obtain ⟨w9, h9⟩ : ∃ x, x = wr := ⟨_, rfl⟩
                  subst h9
                  clear htd
                  cases hin9 : decide (x1 ∈ V)
                  · have HF2 : Hid ((L.take (k + 1)).filter (stays V) = F ++ [(x1, x2, x3)]) := by
                      have := HF.out
                      rw [HST.out, hin9] at this
                      exact this
                    have HO := Lib.hid (row_keep HS9.out.own (fun g hg => Below.heap_alloc w9 (.cells #[.int .i64 x1, .int .u64 (x2 : Int), .bool x3] 29) g (own_lt HS9.out.own hg).2))
                    have HN3 := Lib.hid (new_three w9 29 (.int .i64 x1) (.int .u64 (x2 : Int)) (.bool x3) rfl)
                    have hs9 := HS9.out.below.size
                    go_wp2_with (with_reducible refine wpList_append_where _ rfl (.tmp 101) (.tmp 106) 22 rfl w7.heap.size 29 (.agg #[.int .i64 0, .int .u64 0, .bool false]) 3 24 Try.underlying22 infoPit rfl (by decide) u15 F.length (pil F) rfl HO.out ⟨w9.heap.size, 0, none⟩ 1 1 [.int .i64 x1, .int .u64 (x2 : Int), .bool x3] rfl rfl ?e0 ?e1 ?e2 ?e3 ?e4 ?_)
                    first | (case e0 => exact HN3.out) | skip
                    case e1 => simp [Value.oneCell']
                    case e2 => simp only [maxLen]; omega
                    case e3 => omega
                    case e4 => first | omega | (simp; omega)
                    intro A2 cap2 w10 hown hgr _
                    have HS10 : Hid (PtAt 29 w7 (.slice A2 (F.length + 1) cap2) (F ++ [(x1, x2, x3)]) w10) := HS9.out.next (x := (x1, x2, x3)) hown hgr
                    clear hown hgr
                    go_wp2_with fail
                    go_roundw
                    case rel => exact ⟨k + 1, by go_num, by omega, by rw [HF2.out]; exact HS10.out⟩
                    case measure => simp [intOf]; omega
                  · have HF2 : Hid ((L.take (k + 1)).filter (stays V) = F) := by
                      have := HF.out
                      rw [HST.out, hin9] at this
                      rw [this]
                      exact List.append_nil F
                    go_wp2_with fail
                    go_roundw
                    case rel => exact ⟨k + 1, by go_num, by omega, by rw [HF2.out]; exact HS9.out⟩
                    case measure => simp [intOf]; omega
            · obtain rfl : k = nL := by omega
              have htk : L.take k = L := List.take_of_length_le (by rw [← HNL.out]; exact Nat.le_refl _)
              have HS9 : Hid (PtAt 29 w7 u15 (L.filter (stays V)) w8) := by have := HS8.out; rwa [htk] at this
              generalize L.filter (stays V) = F at *
              obtain ⟨A9, c9, rfl, hA9, hP9⟩ := HS9.out.outL
              obtain ⟨nF, hnF⟩ : ∃ nF, nF = F.length := ⟨_, rfl⟩
              have hIe := HIe.out
              have hLen := HLen.out
              rw [← hnF] at hIe hLen HS9 ⊢
              have hq1 : ((nF : Int) + (K : Int) != (k : Int)) = false := by rw [bne_eq_false_iff_eq]; omega
              have hq2 : ¬ (nF : Int) > (c : Int) := by have := hIe.2; omega
              have HIe2 := Lib.hid hIe.1
              have HS10 := Lib.hid (HS9.out.rebase HR7.out)
              clear htk hA9 hP9 hIe hLen hnF hkn HS8 HS9 hS8 HIe
              go_wp2_with fail
              go_roundw
              case rel => exact ⟨i + 1, F, by go_num, by omega, HIe2.out, HS10.out⟩
              case measure => simp [intOf]; omega
        · have hmz : ((rm : Int) != 0) = true := by rw [bne_iff_ne]; omega
          have HIe := Lib.hid (HIm.out (by rw [← HRM.out]; exact hm))
          clear hm
          clear HIm HIl HV HP
          go_wp2_with fail
          go_roundw
          case rel => exact ⟨i + 1, L, by go_num, by omega, HIe.out, HC.out⟩
          case measure => simp [intOf]; omega
    · obtain rfl : i = n := by omega
      go_wp2_with fail
      go_ret
      exact ⟨rfl, HW1.out.trans (HS.out.below.mono HW1.out.size)⟩
end Go.Proofs.Ytigifbijmchdcaa
