/- Texts of ours put together: DealNext, DealFill, RefPlaces. -/
import Derived.Below
import Derived.BigQuiet
import Derived.ChangeArms
import Derived.ChangeSlices
import Derived.Deep.Cut
import Derived.Deep.Draws
import Derived.Deep.OwnRows
import Derived.Deep.Quiet
import Derived.Deep.QuietTactic
import Derived.Deep.Slices
import Derived.Laws.AppendOwn
import Derived.Lib.Hide
import Derived.OpenShut
import Derived.ProofKit
import Derived.RowKit3
import Derived.SizedLaws
import Derived.StillTailTactics
import Derived.WalkKit
import Derived.WideShapes
import Derived.Test.YtmageeohnfomnaaGreatProg
import Derived.Test.YtmageeohnfomnaaGreatG3
import Derived.Test.YtmageeohnfomnaaGreatG1
import Derived.Test.YtmageeohnfomnaaGreatG4
import Derived.Test.YtmageeohnfomnaaGreatG5
import Derived.Test.YtmageeohnfomnaaGreatG2
import Derived.Test.YtmageeohnfomnaaGreatG6
namespace Go.Proofs.YtmageeohnfomnaaGreat
set_option maxRecDepth 100000
open Go.RowKit Go.ChangeShapes Go.WideShapes Go.ChangeAt

set_option maxHeartbeats 1000000 in
theorem places_in (D S T L n : Nat) (h1 : D ≤ 10) (h2 : 1 ≤ S) (h3 : S ≤ 8) (h4 : 1 ≤ T) (h5 : T ≤ 64) (hL : (D + 1) * S = L) (hn : L + T + 1 = n) (w : World) :
    Calls Tryz.prog 60 #[.agg #[.int .i64 (D : Int), .int .i64 (S : Int), .int .i64 (T : Int)]] w fun e w' => e = .returned (.int .i64 (n : Int)) ∧ Below w.heap.size w w' := by
  have hr := isSh_yes h1 h2 h3 h4 h5
  have hl := (mul_places h1 h3 hL).2
  have HS := Lib.hid (fun W => stash_from D S T L h1 h3 hL W)
  clear hL
  go_enter Tryz.func60, Tryz.ntmps60
  go_wp2_with fail
  refine (deal_right (D : Int) (S : Int) (T : Int) _).mono ?_
  rintro e w1 ⟨rfl, hb1⟩
  rw [hr]
  have hbx := (Box.new w 68 #[.int .i64 (D : Int), .int .i64 (S : Int), .int .i64 (T : Int)]).of (hb1.block _ (by simp))
  have HB := Lib.hid (((Below.refl _ w).alloc (Nat.le_refl _) (.cells #[.int .i64 (D : Int), .int .i64 (S : Int), .int .i64 (T : Int)] 68)).trans (hb1.mono (by simp)))
  have c0 := Gr.cell (hbx.cell 0)
  have c1 := Gr.cell (hbx.cell 1)
  have c2 := Gr.cell (hbx.cell 2)
  clear hb1 hbx hr
  go_wp2_with fail
  refine wp_region_grow (by kernel_rfl) (by kernel_rfl) ?_
  repeat (go_big_quiet_step (first | (go_at_call 75; exact Gr.blw (HS.out _))))
  refine wpQuiet_nil ?_
  intro w9 hw9
  obtain ⟨G, hG⟩ := hw9
  subst hG
  go_wp2_with fail
  go_ret
  exact ⟨ret_int (by omega), HB.out.trans (G.ok.none.mono HB.out.size)⟩
def optI : Option Nat → Int
  | some p => p
  | none => -1
set_option maxHeartbeats 1000000 in
theorem next_stash (D S T L st : Nat) (lv on : Int) (p : Nat) (h1 : D ≤ 10) (h3 : S ≤ 8) (h5 : T ≤ 64) (hL : (D + 1) * S = L) (hst : st ≤ T) (w : World)
    (hB : Box w p 159 #[.int .i64 (D : Int), .int .i64 (S : Int), .int .i64 (T : Int), .int .i64 lv, .int .i64 on, .int .i64 (st : Int)]) :
    Calls Tryz.prog 109 #[.pointer (some ⟨p, 0, none⟩)] w fun e w' =>
      e = .returned (.int .i64 (if st < T then ((L + st : Nat) : Int) else -1)) ∧ Box w' p 159 #[.int .i64 (D : Int), .int .i64 (S : Int), .int .i64 (T : Int), .int .i64 lv, .int .i64 on, .int .i64 ((if st < T then st + 1 else st : Nat) : Int)] ∧ Only (just p) w w' := by
  have hl := (mul_places h1 h3 hL).2
  have HS := Lib.hid (fun W => stash_from D S T L h1 h3 hL W)
  clear hL
  have c0 := hB.cell 0
  have c1 := hB.cell 1
  have c2 := hB.cell 2
  have c3 := hB.cell 3
  have c4 := hB.cell 4
  have c5 := hB.cell 5
  have HB := Lib.hid hB
  by_cases hlt : st < T
  · rw [if_pos hlt, if_pos hlt]
    have hne : ((st : Int) == (T : Int)) = false := by rw [beq_eq_false_iff_ne]; omega
    clear hB
    go_enter Tryz.func109, Tryz.ntmps109
    go_wp2_with fail
    go_quiet (fail)
    have g0 := Gr.cell (w := w.drewN nq) c0
    have g1 := Gr.cell (w := w.drewN nq) c1
    have g2 := Gr.cell (w := w.drewN nq) c2
    have g5 := Gr.cell (w := w.drewN nq) c5
    go_wp2_with fail
    refine wp_region_grow (by kernel_rfl) (by kernel_rfl) ?_
    repeat (go_big_quiet_step (first | (go_at_call 75; exact Gr.blw (HS.out _))))
    refine wpQuiet_nil ?_
    intro w9 hw9
    obtain ⟨G, hG⟩ := hw9
    subst hG
    have hB9 : Box G.w' p _ _ := (HB.out.drewN nq).only G.ok (not_nobody _)
    have f5 := hB9.frozen 5
    have k5 := hB9.cell 5
    have HE : Hid (Box (G.w'.setCell ⟨p, 5, none⟩ (.int .i64 ((st : Int) + 1))) p 159 #[.int .i64 (D : Int), .int .i64 (S : Int), .int .i64 (T : Int), .int .i64 lv, .int .i64 on, .int .i64 ((st : Int) + 1)]) := hB9.put 5 _
    have HO : Hid (Only (just p) w (G.w'.setCell ⟨p, 5, none⟩ (.int .i64 ((st : Int) + 1)))) := ((((Only.refl (just p) w).drewN nq).then G.ok (fun i k => absurd k (not_nobody i))).setCell (p := ⟨p, 5, none⟩) (.inl (just_self p)) _)
    clear hB9 g0 g1 g2 g5 c0 c1 c2 c3 c4 c5 HB
    go_wp2_with fail
    go_ret
    rw [show ((st + 1 : Nat) : Int) = (st : Int) + 1 by omega]
    exact ⟨ret_int (by omega), HE.out, HO.out⟩
  · rw [if_neg hlt, if_neg hlt]
    have hne : ((st : Int) == (T : Int)) = true := by rw [beq_iff_eq]; omega
    clear hB
    go_enter Tryz.func109, Tryz.ntmps109
    go_wp2_with fail
    go_quiet (fail)
    go_wp2_with fail
    go_ret
    exact ⟨rfl, HB.out.drewN nq, (Only.refl _ _).drewN nq⟩
def stp (S L T r st d : Nat) : Option Nat × Nat × Nat :=
  if min r ((d + 1) * S) = 0 then (if st < T then (some (L + st), 0, st + 1) else (none, 0, st)) else (some (rv S (min r ((d + 1) * S) - 1)), min r ((d + 1) * S) - 1, st)
theorem dl_cons (S L T r st d : Nat) (ds : List Nat) : dl S L T r st (d :: ds) = (stp S L T r st d).1 :: dl S L T (stp S L T r st d).2.1 (stp S L T r st d).2.2 ds := by
  unfold stp
  conv => lhs; unfold dl
  split
  · split <;> rfl
  · rfl
def NxPost (w : World) (p D S T : Nat) (x : Option Nat × Nat × Nat) (e : Ending) (w' : World) : Prop :=
  e = .returned (.int .i64 (optI x.1)) ∧ ∃ (lv : Int) (on : Nat), Box w' p 159 #[.int .i64 (D : Int), .int .i64 (S : Int), .int .i64 (T : Int), .int .i64 lv, .int .i64 (on : Int), .int .i64 (x.2.2 : Int)] ∧ LvAt S x.2.1 lv on ∧ Only (just p) w w'
theorem stp_put {S L T r st d l on : Nat} (hv : LvAt S (min r ((d + 1) * S)) (l : Int) on) : stp S L T r st d = (some (l * S + on), min r ((d + 1) * S) - 1, st) := by
  obtain ⟨h1, _, h2, _⟩ := hv.put
  unfold stp
  rw [if_neg h1, h2]
def MidAt (w : World) (p D S T st R : Nat) (w' : World) : Prop :=
  ∃ (l : Int) (o : Nat), Box w' p 159 #[.int .i64 (D : Int), .int .i64 (S : Int), .int .i64 (T : Int), .int .i64 l, .int .i64 (o : Int), .int .i64 (st : Int)] ∧ LvAt S R l o ∧ Only (just p) w w'
set_option maxRecDepth 100000 in
set_option maxHeartbeats 2000000 in
theorem next_any (D S T L st r d on : Nat) (lv : Int) (p : Nat) (h1 : D ≤ 10) (h3 : S ≤ 8) (h5 : T ≤ 64) (hL : (D + 1) * S = L) (hr : r ≤ L) (hst : st ≤ T) (hv : LvAt S r lv on) (w : World)
    (hB : Box w p 159 #[.int .i64 (D : Int), .int .i64 (S : Int), .int .i64 (T : Int), .int .i64 lv, .int .i64 (on : Int), .int .i64 (st : Int)]) :
    Calls Tryz.prog 99 #[.pointer (some ⟨p, 0, none⟩), .int .i64 (d : Int)] w (NxPost w p D S T (stp S L T r st d)) := by
  have HB := Lib.hid hB
  have c3 := hB.cell 3
  have c4 := hB.cell 4
  have f3 := hB.frozen 3
  have f4 := hB.frozen 4
  have HV := Lib.hid hv
  have HS := Lib.hid (fun (l on : Nat) (h : LvAt S (min r ((d + 1) * S)) (l : Int) on) => (stp_put (L := L) (T := T) (st := st) h : stp S L T r st d = _))
  have HZ : Hid (min r ((d + 1) * S) = 0 → stp S L T r st d = if st < T then (some (L + st), 0, st + 1) else (none, 0, st)) := Lib.hid (fun h => by unfold stp; rw [if_pos h])
  have hR : min r ((d + 1) * S) ≤ (D + 1) * S := by omega
  obtain ⟨R, hRe⟩ : ∃ R, min r ((d + 1) * S) = R := ⟨_, rfl⟩
  have HDr := Lib.hid (fun (h : (d : Int) < lv) => hv.drop h)
  have HK := Lib.hid (fun (h : ¬ (d : Int) < lv) => hv.keep h)
  have HL := Lib.hid hL
  rw [hRe] at HS HZ HDr HK hR
  have HR := Lib.hid hR
  generalize stp S L T r st d = x at *
  clear hB hv hRe hL hR hr
  go_enter Tryz.func99, Tryz.ntmps99
  go_upto_if 11 with fail
  go_cut [4] from 6 (fun s w' => s = .int .i64 0 ∧ MidAt w p D S T st R w')
  case first =>
    by_cases hdl : (d : Int) < lv
    · go_wp2_with fail
      go_meet
      case rel => exact ⟨rfl, (d : Int), 0, (HB.out.put 3 _).put 4 _, HDr.out hdl, ((Only.refl (just p) w).setCell (p := ⟨p, 3, none⟩) (.inl (just_self p)) (.int .i64 (d : Int))).setCell (p := ⟨p, 4, none⟩) (.inl (just_self p)) (.int .i64 0)⟩
    · go_wp2_with fail
      go_meet
      case rel => exact ⟨rfl, lv, on, HB.out, by rw [HK.out hdl]; exact HV.out, Only.refl _ _⟩
  case rest =>
    obtain ⟨rfl, l, o, hB2, hv2, hO2⟩ := hcut
    clear HB HV HDr HK c3 c4 f3 f4
    have HO := Lib.hid hO2
    have HB := Lib.hid hB2
    clear hO2
    have c1 := hB2.cell 1
    have c3 := hB2.cell 3
    have c4 := hB2.cell 4
    have f3 := hB2.frozen 3
    have f4 := hB2.frozen 4
    clear hB2
    by_cases hl : l < 0
    · obtain ⟨rfl, rfl, rfl⟩ := hv2.none hl
      clear hv2 HS c1 c4 f3 f4 HR hl
      have hx := HZ.out rfl
      by_cases hlt : st < T
      · skip
        rw [if_pos hlt] at hx
        have HX := Lib.hid hx
        have hns := next_stash D S T L st _ _ p h1 h3 h5 HL.out hst _ HB.out
        rw [if_pos hlt, if_pos hlt] at hns
        have HN := Lib.hid hns
        clear hx hns HZ
        go_wp2_with fail
        refine HN.out.mono ?_
        rintro e w4 ⟨rfl, hB4, hO4⟩
        have HB4 := Lib.hid hB4
        have HO4 := Lib.hid (HO.out.trans hO4)
        clear hB4 hO4 HO HB HN
        go_wp2_with fail
        go_ret
        rw [HX.out]
        exact ⟨rfl, _, _, HB4.out, .inl ⟨rfl, rfl, rfl⟩, HO4.out⟩
      · skip
        rw [if_neg hlt] at hx
        have HX := Lib.hid hx
        have hns := next_stash D S T L st _ _ p h1 h3 h5 HL.out hst _ HB.out
        rw [if_neg hlt, if_neg hlt] at hns
        have HN := Lib.hid hns
        clear hx hns HZ
        go_wp2_with fail
        refine HN.out.mono ?_
        rintro e w4 ⟨rfl, hB4, hO4⟩
        have HB4 := Lib.hid hB4
        have HO4 := Lib.hid (HO.out.trans hO4)
        clear hB4 hO4 HO HB HN
        go_wp2_with fail
        go_ret
        rw [HX.out]
        exact ⟨rfl, _, _, HB4.out, .inl ⟨rfl, rfl, rfl⟩, HO4.out⟩
    · obtain ⟨k, rfl⟩ := Int.eq_ofNat_of_zero_le (a := l) (by omega)
      have hk := LvAt.le hv2 HR.out
      have hx := HS.out k o hv2
      obtain ⟨_, hon, _, hfull, hmore⟩ := hv2.put
      have HF := Lib.hid hfull
      have HM := Lib.hid hmore
      have hP : k * S ≤ 80 := Nat.mul_le_mul (show k ≤ 10 by omega) h3
      have hm : (k : Int) * (S : Int) = ((k * S : Nat) : Int) := by simp
      have HX := Lib.hid hx
      clear hv2 hfull hmore HS HZ hx HL HR hl
      have hwr : IntKind.i64.wrap ((k : Int) * (S : Int)) = ((k * S : Nat) : Int) := by rw [hm, IntKind.wrap_i64]; omega
      have hws : IntKind.i64.wrap (((k * S : Nat) : Int) + (o : Int)) = ((k * S : Nat) : Int) + (o : Int) := by rw [IntKind.wrap_i64]; omega
      generalize hPe : k * S = P at *
      have HP := Lib.hid hPe
      clear hPe
      have d0 : decide ((k : Int) < 0) = false := by simp
      by_cases hS : o + 1 = S
      · have hq : ((o : Int) + 1 == (S : Int)) = true := by rw [beq_iff_eq]; omega
        go_wp2_with fail
        go_quiet (fail)
        have HB5 := Lib.hid (HB.out.drewN nq)
        have HO5 := Lib.hid (HO.out.drewN nq)
        clear HB HO c1 c3 c4 f3 f4
        generalize wc.drewN nq = w5 at *
        have c4 := HB5.out.cell 4
        have f4 := HB5.out.frozen 4
        go_upto_region 7 with fail
        have HB6 : Hid (Box (w5.setCell ⟨p, 4, none⟩ (.int .i64 ((o : Int) + 1))) p 159 #[.int .i64 (D : Int), .int .i64 (S : Int), .int .i64 (T : Int), .int .i64 (k : Int), .int .i64 ((o : Int) + 1), .int .i64 (st : Int)]) := HB5.out.put 4 _
        have HO6 := Lib.hid (HO5.out.setCell (p := ⟨p, 4, none⟩) (.inl (just_self p)) (.int .i64 ((o : Int) + 1)))
        clear HB5 HO5 c4 f4
        generalize w5.setCell ⟨p, 4, none⟩ (.int .i64 ((o : Int) + 1)) = w6 at *
        have c1 := HB6.out.cell 1
        have c4 := HB6.out.cell 4
        go_quiet (fail)
        have HB7 := Lib.hid (HB6.out.drewN nq)
        have HO7 := Lib.hid (HO6.out.drewN nq)
        clear HB6 HO6 c1 c4
        generalize w6.drewN nq = w7 at *
        have c3 := HB7.out.cell 3
        have c4 := HB7.out.cell 4
        have f3 := HB7.out.frozen 3
        have f4 := HB7.out.frozen 4
        have HB8 : Hid (Box ((w7.setCell ⟨p, 3, none⟩ (.int .i64 ((k : Int) - 1))).setCell ⟨p, 4, none⟩ (.int .i64 0)) p 159 #[.int .i64 (D : Int), .int .i64 (S : Int), .int .i64 (T : Int), .int .i64 ((k : Int) - 1), .int .i64 0, .int .i64 (st : Int)]) := (HB7.out.put 3 _).put 4 _
        have HO8 := Lib.hid ((HO7.out.setCell (p := ⟨p, 3, none⟩) (.inl (just_self p)) (.int .i64 ((k : Int) - 1))).setCell (p := ⟨p, 4, none⟩) (.inl (just_self p)) (.int .i64 0))
        clear HB7 HO7
        go_wp2_with fail
        go_ret
        rw [HX.out]
        exact ⟨ret_int (by show _ = ((P + o : Nat) : Int); simp), _, 0, HB8.out, HF.out hS, HO8.out⟩
      · have hq : ((o : Int) + 1 == (S : Int)) = false := by rw [beq_eq_false_iff_ne]; omega
        go_wp2_with fail
        go_quiet (fail)
        have HB5 := Lib.hid (HB.out.drewN nq)
        have HO5 := Lib.hid (HO.out.drewN nq)
        clear HB HO c1 c3 c4 f3 f4
        generalize wc.drewN nq = w5 at *
        have c4 := HB5.out.cell 4
        have f4 := HB5.out.frozen 4
        go_upto_region 7 with fail
        have HB6 : Hid (Box (w5.setCell ⟨p, 4, none⟩ (.int .i64 ((o : Int) + 1))) p 159 #[.int .i64 (D : Int), .int .i64 (S : Int), .int .i64 (T : Int), .int .i64 (k : Int), .int .i64 ((o : Int) + 1), .int .i64 (st : Int)]) := HB5.out.put 4 _
        have HO6 := Lib.hid (HO5.out.setCell (p := ⟨p, 4, none⟩) (.inl (just_self p)) (.int .i64 ((o : Int) + 1)))
        clear HB5 HO5 c4 f4
        generalize w5.setCell ⟨p, 4, none⟩ (.int .i64 ((o : Int) + 1)) = w6 at *
        have c1 := HB6.out.cell 1
        have c4 := HB6.out.cell 4
        go_quiet (fail)
        have HB7 := Lib.hid (HB6.out.drewN nq)
        have HO7 := Lib.hid (HO6.out.drewN nq)
        clear HB6 HO6 c1 c4
        generalize w6.drewN nq = w7 at *
        go_wp2_with fail
        go_ret
        rw [HX.out]
        exact ⟨ret_int (by show _ = ((P + o : Nat) : Int); simp), _, o + 1, HB7.out, HM.out hS, HO7.out⟩
end Go.Proofs.YtmageeohnfomnaaGreat


namespace Go.Proofs.YtmageeohnfomnaaGreat
set_option maxRecDepth 100000
open Go.RowKit Go.ChangeShapes Go.WideShapes Go.ChangeAt

theorem infoBool : (Tryz.prog.info? 4).map (fun i => (i.zero, i.size, i.bytes)) = some (some (.bool false), 1, 1) := by kernel_rfl
theorem isAt_succ (A : Nat → Option Nat) (i p : Nat) : isAt A (i + 1) p = (isAt A i p || (A i == some p)) := by
  unfold isAt
  rw [List.range_succ, List.any_append]
  simp
def rnk (A : Nat → Option Nat) (i : Nat) : Nat := (List.range i).countP fun j => (A j).isNone
theorem rnk_succ (A : Nat → Option Nat) (i : Nat) : rnk A (i + 1) = rnk A i + (if (A i).isNone then 1 else 0) := by
  unfold rnk
  rw [List.range_succ, List.countP_append]
  simp
def lft (l : List Nat) (k : Nat) : Nat := if k = 0 then 0 else l.getD (k - 1) 0 + 1
theorem lft_succ (l : List Nat) (k : Nat) : lft l (k + 1) = l.getD k 0 + 1 := by unfold lft; simp
theorem getD_at {l : List Nat} {k : Nat} (hk : k < l.length) : l.getD k 0 = l[k] := by simp [hk]
section
variable {A : Nat → Option Nat} {n k : Nat}
theorem fre_mem (p : Nat) : p ∈ fre A n ↔ p < n ∧ isAt A n p = false := by
  unfold fre
  rw [List.mem_filter, List.mem_range]
  simp
theorem fre_skip (hk : k < (fre A n).length) (x : Nat) (h1 : lft (fre A n) k ≤ x) (h2 : x < (fre A n).getD k 0) : isAt A n x = true := by
  rw [getD_at hk] at h2
  cases h : isAt A n x
  · have hn : (fre A n)[k] < n := ((fre_mem _).1 (List.getElem_mem hk)).1
    have hx : x ∈ fre A n := (fre_mem x).2 ⟨by omega, h⟩
    obtain ⟨m, hm, rfl⟩ := List.mem_iff_getElem.1 hx
    have hp := List.pairwise_iff_getElem.1 (fre_up A n)
    have hmk : m < k := by
      apply Nat.lt_of_not_le
      intro hle
      rcases Nat.lt_or_eq_of_le hle with h3 | h3
      · have := hp k m hk hm h3; omega
      · subst h3; omega
    unfold lft at h1
    rw [if_neg (by omega), getD_at (by omega)] at h1
    by_cases e : m = k - 1
    · subst e; omega
    · have := hp m (k - 1) hm (by omega) (by omega); omega
  · rfl
theorem fre_stop (hk : k < (fre A n).length) : isAt A n ((fre A n).getD k 0) = false ∧ (fre A n).getD k 0 < n := by
  rw [getD_at hk]
  have := (fre_mem (A := A) (n := n) _).1 (List.getElem_mem hk)
  exact ⟨this.2, this.1⟩
theorem fre_first (hk : k < (fre A n).length) : lft (fre A n) k ≤ (fre A n).getD k 0 := by
  unfold lft
  by_cases e : k = 0
  · rw [if_pos e]; exact Nat.zero_le _
  · rw [if_neg e, getD_at hk, getD_at (by omega)]
    have := (List.pairwise_iff_getElem.1 (fre_up A n)) (k - 1) k (by omega) hk (by omega)
    omega
theorem outP_none {i : Nat} (h : A i = none) : outP A n i = (fre A n).getD (rnk A i) 0 := by
  unfold outP
  rw [h]
  show (fre A n)[rnk A i]?.getD 0 = _
  rw [List.getD_eq_getElem?_getD]
end
structure MkAt (w : World) (g t n : Nat) (A : Nat → Option Nat) (i : Nat) (wr : World) : Prop where
  le : i ≤ n
  row : wr.rowIs g 3 n (fun j => .int .i64 (optI (A j)))
  tk : wr.rowIs t 4 n (fun p => .bool (isAt A i p))
  old : w.heap.size ≤ t
  only : Only (just g) w wr
theorem MkAt.skip {w wr : World} {g t n : Nat} {A : Nat → Option Nat} {i : Nat} (h : MkAt w g t n A i wr) (hi : i < n) (hA : A i = none) : MkAt w g t n A (i + 1) wr :=
  ⟨hi, h.row, h.tk.congr fun p _ => by rw [isAt_succ, hA]; simp, h.old, h.only⟩
theorem MkAt.mark {w wr : World} {g t n : Nat} {A : Nat → Option Nat} {i p : Nat} (h : MkAt w g t n A i wr) (hg : g ≠ t) (hi : i < n) (hA : A i = some p) : MkAt w g t n A (i + 1) (wr.setCell ⟨t, p, none⟩ (.bool true)) := by
  refine ⟨hi, h.row.setOther hg _, (h.tk.set _ _).congr fun q _ => ?_, h.old, h.only.setCell (p := ⟨t, p, none⟩) (.inr h.old) _⟩
  show (if q = p then _ else _) = _
  rw [isAt_succ, hA]
  by_cases e : q = p
  · subst e; simp
  · rw [if_neg e]
    have : (some p == some q) = false := by simp; omega
    rw [this, Bool.or_false]
structure FlAt (w : World) (g t n : Nat) (A : Nat → Option Nat) (i : Nat) (wr : World) : Prop where
  le : i ≤ n
  row : wr.rowIs g 3 n (fun j => .int .i64 (if j < i then (outP A n j : Int) else optI (A j)))
  tk : wr.rowIs t 4 n (fun p => .bool (isAt A n p))
  only : Only (just g) w wr
theorem FlAt.skip {w wr : World} {g t n : Nat} {A : Nat → Option Nat} {i p : Nat} (h : FlAt w g t n A i wr) (hi : i < n) (hA : A i = some p) : FlAt w g t n A (i + 1) wr :=
  ⟨hi, h.row.congr fun j _ => by
    by_cases e : j = i
    · subst e; rw [if_neg (by omega), if_pos (by omega), out_some hA, hA]; rfl
    · by_cases e2 : j < i
      · rw [if_pos e2, if_pos (by omega)]
      · rw [if_neg e2, if_neg (by omega)], h.tk, h.only⟩
theorem FlAt.give {w wr : World} {g t n : Nat} {A : Nat → Option Nat} {i x : Nat} (h : FlAt w g t n A i wr) (hg : g ≠ t) (hi : i < n) (hx : outP A n i = x) : FlAt w g t n A (i + 1) (wr.setCell ⟨g, i, none⟩ (.int .i64 (x : Int))) := by
  refine ⟨hi, (h.row.set _ _).congr fun j _ => ?_, h.tk.setOther (fun e => hg e.symm) _, h.only.setCell (p := ⟨g, i, none⟩) (.inl (just_self g)) _⟩
  show (if j = i then _ else _) = _
  by_cases e : j = i
  · subst e; rw [if_pos rfl, if_pos (by omega), hx]
  · rw [if_neg e]
    by_cases e2 : j < i
    · rw [if_pos e2, if_pos (by omega)]
    · rw [if_neg e2, if_neg (by omega)]
def FlPost (w : World) (g n : Nat) (A : Nat → Option Nat) (e : Ending) (w' : World) : Prop :=
  e = .returned (.tuple #[]) ∧ w'.rowIs g 3 n (fun i => .int .i64 (outP A n i : Nat)) ∧ Only (just g) w w'
set_option maxRecDepth 100000 in
set_option maxHeartbeats 2000000 in
theorem fill_any (g n c : Nat) (A : Nat → Option Nat) (w : World) (hn : n ≤ 1000) (hlt : ∀ i p, i < n → A i = some p → p < n) (hinj : ∀ i j p, i < n → j < n → A i = some p → A j = some p → i = j)
    (hr : w.rowIs g 3 n (fun i => .int .i64 (optI (A i)))) : Calls Tryz.prog 100 #[.slice (some ⟨g, 0, none⟩) n c] w (FlPost w g n A) := by
  have hmk := run_make_row' (P := Tryz.prog) 168 4 (.bool false) 1 Tryz.underlying168 infoBool rfl .i64 .i64 n (by omega) (by omega)
  have hgl := hr.lt
  have HM : Hid (MkAt w g w.heap.size n A 0 (w.alloc (.cells (madeCells #[.bool false] n) 4))) :=
    ⟨by omega, hr.alloc _, (World.rowIs_made w (.bool false) n 4).congr fun p _ => by simp [isAt], Nat.le_refl _, (Only.refl _ w).alloc _⟩
  obtain ⟨t, ht⟩ : ∃ t, w.heap.size = t := ⟨_, rfl⟩
  have hgt : ¬ g = t := by omega
  have htg : ¬ t = g := fun e => hgt e.symm
  rw [ht] at HM
  have HT := Lib.hid ht
  have HLt := Lib.hid hlt
  have HLen := Lib.hid (fre_len hlt hinj)
  clear hr ht hlt hinj hgl
  go_enter Tryz.func100, Tryz.ntmps100
  go_wp2_with fail
  rw [HT.out]
  go_loopw [13] (fun v wr => ∃ i : Nat, v = .int .i64 i ∧ MkAt w g t n A i wr) (fun v _ => n - (intOf v).toNat)
  case atStart => exact ⟨0, rfl, HM.out⟩
  case round =>
    obtain ⟨i, rfl, hS⟩ := hrel
    clear HM
    have hle := hS.le
    by_cases hin : i < n
    · have c0 := hS.row.cell hin
      cases hA : A i with
      | none =>
        rw [hA] at c0
        replace c0 : wr.cell? ⟨g, i, none⟩ = some (.int .i64 (-1)) := c0
        have HN := Lib.hid (hS.skip hin hA)
        clear hS hA
        go_wp2_with fail
        go_roundw
        case rel => exact ⟨i + 1, by go_num, HN.out⟩
        case measure => simp [intOf]; omega
      | some p =>
        rw [hA] at c0
        replace c0 : wr.cell? ⟨g, i, none⟩ = some (.int .i64 (p : Int)) := c0
        have hp := HLt.out i p hin hA
        have c1 := hS.tk.cell hp
        have f1 := hS.tk.frozen p
        have hne : ((p : Int) != -1) = true := by rw [bne_iff_ne]; omega
        have HN := Lib.hid (hS.mark hgt hin hA)
        clear hS hA
        go_wp2_with fail
        go_roundw
        case rel => exact ⟨i + 1, by go_num, HN.out⟩
        case measure => simp [intOf]; omega
    · obtain rfl : i = n := by omega
      have hF : FlAt w g t i A 0 wr := ⟨by omega, hS.row.congr fun j _ => by rw [if_neg (by omega)], hS.tk, hS.only⟩
      have HF := Lib.hid hF
      clear hS hF hin hle
      obtain ⟨w9, h9⟩ : ∃ x, x = wr := ⟨_, rfl⟩
      subst h9
      go_wp2_with fail
      go_loopw [5, 25] (fun v5 v25 wr => ∃ k : Nat, v25 = .int .i64 k ∧ v5 = .int .i64 (lft (fre A i) (rnk A k) : Nat) ∧ FlAt w g t i A k wr) (fun _ v _ => i - (intOf v).toNat)
      case atStart => exact ⟨0, rfl, by simp [lft, rnk], HF.out⟩
      case round =>
        obtain ⟨k, rfl, rfl, hS⟩ := hrel
        clear HF
        have hle := hS.le
        obtain ⟨w8, h8⟩ : ∃ x, x = wr := ⟨_, rfl⟩
        subst h8
        by_cases hki : k < i
        · have c0 := hS.row.cell hki
          rw [if_neg (by omega)] at c0
          cases hA : A k with
          | none =>
            rw [hA] at c0
            replace c0 : w8.cell? ⟨g, k, none⟩ = some (.int .i64 (-1)) := c0
            have hrk : rnk A k < (fre A i).length := by rw [HLen.out]; exact rank_lt hki hA
            have hrs : rnk A (k + 1) = rnk A k + 1 := by rw [rnk_succ, hA]; rfl
            have HSk := Lib.hid (fre_skip hrk)
            obtain ⟨hst, hsn⟩ := fre_stop hrk
            have hff := fre_first hrk
            have HG := Lib.hid (hS.give hgt hki (outP_none hA))
            have HR := Lib.hid (And.intro hrs (lft_succ (fre A i) (rnk A k)))
            have HTk := Lib.hid hS.tk
            have c1 := hS.row.cell hki
            have f1 := hS.row.frozen k
            rw [if_neg (by omega), hA] at c1
            replace c1 : w8.cell? ⟨g, k, none⟩ = some (.int .i64 (-1)) := c1
            clear hS hA hrk hrs c0
            generalize lft (fre A i) (rnk A k) = lo at *
            generalize (fre A i).getD (rnk A k) 0 = hi at *
            have HSt := Lib.hid hst
            clear hst
            go_wp2_with fail
            go_loopw [5] (fun v wr => ∃ x : Nat, v = .int .i64 x ∧ lo ≤ x ∧ x ≤ hi ∧ wr = w8) (fun v _ => hi - (intOf v).toNat)
            case atStart => exact ⟨lo, rfl, by omega, hff, rfl⟩
            case round =>
              obtain ⟨x, rfl, hx1, hx2, rfl⟩ := hrel
              have ct := HTk.out.cell (show x < i by omega)
              by_cases hxh : x < hi
              · rw [HSk.out x hx1 hxh] at ct
                go_wp2_with fail
                go_roundw
                case rel => exact ⟨x + 1, by go_num, by omega, by omega, trivial⟩
                case measure => simp [intOf]; omega
              · obtain rfl : x = hi := by omega
                rw [HSt.out] at ct
                clear hxh hx1 hx2
                go_wp2_with fail
                go_roundw
                case rel => exact ⟨k + 1, by go_num, by rw [HR.out.1, HR.out.2]; go_num, HG.out⟩
                case measure => simp [intOf]; omega
          | some p =>
            rw [hA] at c0
            replace c0 : w8.cell? ⟨g, k, none⟩ = some (.int .i64 (p : Int)) := c0
            have hrs : rnk A (k + 1) = rnk A k := by rw [rnk_succ, hA]; rfl
            have hne : ((p : Int) != -1) = true := by rw [bne_iff_ne]; omega
            have HN := Lib.hid (hS.skip hki hA)
            have HR := Lib.hid hrs
            clear hS hA hrs
            go_wp2_with fail
            go_roundw
            case rel => exact ⟨k + 1, by go_num, by rw [HR.out], HN.out⟩
            case measure => simp [intOf]; omega
        · obtain rfl : k = i := by omega
          have HS := Lib.hid hS
          clear hS hki hle
          go_wp2_with fail
          go_end0
          exact ⟨rfl, HS.out.row.congr fun j hj => by rw [if_pos hj], HS.out.only⟩
end Go.Proofs.YtmageeohnfomnaaGreat


namespace Go.Proofs.YtmageeohnfomnaaGreat
set_option maxRecDepth 100000
open Go.RowKit Go.ChangeShapes Go.WideShapes Go.ChangeAt

set_option maxHeartbeats 1000000 in
theorem ref_places (D S T L n : Nat) (h1 : D ≤ 10) (h2 : 1 ≤ S) (h3 : S ≤ 8) (h4 : 1 ≤ T) (h5 : T ≤ 64) (hL : (D + 1) * S = L) (hn : L + T + 1 = n) (w : World) :
    Calls Tryz.prog 27 #[.agg #[.int .i64 (D : Int), .int .i64 (S : Int), .int .i64 (T : Int)]] w fun e w' => e = .returned (.int .i64 (n : Int)) ∧ Below w.heap.size w w' := by
  have hr := isSh_yes h1 h2 h3 h4 h5
  have hl := mul_places h1 h3 hL
  have hmul := hl.1
  have hl2 := hl.2
  clear hL hl
  go_enter Tryz.func27, Tryz.ntmps27
  go_wp2_with fail
  refine (ref_right (D : Int) (S : Int) (T : Int) _).mono ?_
  rintro e w1 ⟨rfl, hb1⟩
  rw [hr]
  have hbx := (Box.new w 64 #[.int .i64 (D : Int), .int .i64 (S : Int), .int .i64 (T : Int)]).of (hb1.block _ (by simp))
  have HB := Lib.hid (((Below.refl _ w).alloc (Nat.le_refl _) (.cells #[.int .i64 (D : Int), .int .i64 (S : Int), .int .i64 (T : Int)] 64)).trans (hb1.mono (by simp)))
  have c0 := hbx.cell 0
  have c1 := hbx.cell 1
  have c2 := hbx.cell 2
  clear hb1 hbx hr
  go_wp2_with fail
  go_ret
  exact ⟨ret_int (by omega), HB.out⟩
end Go.Proofs.YtmageeohnfomnaaGreat

