/- Places; the dealer: next, nextOfStash. -/
import Derived.Test.YtnpddimepcblkaaDealShape
import Derived.Test.YtnpddimepcblkaaGrow
import Derived.Test.YtnpddimepcblkaaDealLast
import Derived.StillTailTactics
import Derived.Deep.Cut
namespace Go.Proofs.Ytnpddimepcblkaa
open Go.RowKit Go.ChangeShapes Go.WideShapes Go.ChangeAt

/-- A callee that makes new blocks alone, told by Below. -/
theorem Gr.blw {P : Program} {f : FuncId} {args : Array Value} {w : World} {g : Gr w} {v : Value} (h : Calls P f args g.w' fun e w1 => e = .returned v ∧ Below g.w'.heap.size g.w' w1) :
    Calls P f args g.w' fun e w2 => e = .returned v ∧ ∃ g' : Gr w, w2 = g'.w' := Gr.calls (h.mono fun _ _ ⟨he, hb⟩ => ⟨he, Only.of_below hb⟩)
set_option maxHeartbeats 1000000 in
theorem places_in (D S T L n : Nat) (h1 : D ≤ 10) (h2 : 1 ≤ S) (h3 : S ≤ 8) (h4 : 1 ≤ T) (h5 : T ≤ 64) (hL : (D + 1) * S = L) (hn : L + T + 1 = n) (w : World) :
    Calls Try.prog 12 #[.agg #[.int .i64 (D : Int), .int .i64 (S : Int), .int .i64 (T : Int)]] w fun e w' => e = .returned (.int .i64 (n : Int)) ∧ Below w.heap.size w w' := by
  have hr := isSh_yes h1 h2 h3 h4 h5
  have hl := (mul_places h1 h3 hL).2
  have HS := Lib.hid (fun W => stash_from D S T L h1 h3 hL W)
  clear hL
  go_enter Try.func12, Try.ntmps12
  go_wp2_with fail
  refine (deal_right (D : Int) (S : Int) (T : Int) _).mono ?_
  rintro e w1 ⟨rfl, hb1⟩
  rw [hr]
  have hbx := (Box.new w 23 #[.int .i64 (D : Int), .int .i64 (S : Int), .int .i64 (T : Int)]).of (hb1.block _ (by simp))
  have HB := Lib.hid (((Below.refl _ w).alloc (Nat.le_refl _) (.cells #[.int .i64 (D : Int), .int .i64 (S : Int), .int .i64 (T : Int)] 23)).trans (hb1.mono (by simp)))
  have c0 := Gr.cell (hbx.cell 0)
  have c1 := Gr.cell (hbx.cell 1)
  have c2 := Gr.cell (hbx.cell 2)
  clear hb1 hbx hr
  go_wp2_with fail
  refine wp_region_grow (by kernel_rfl) (by kernel_rfl) ?_
  repeat (go_big_quiet_step (first | (go_at_call 20; exact Gr.blw (HS.out _))))
  refine wpQuiet_nil ?_
  intro w9 hw9
  obtain ⟨G, hG⟩ := hw9
  subst hG
  go_wp2_with fail
  go_ret
  exact ⟨ret_int (by omega), HB.out.trans (G.ok.none.mono HB.out.size)⟩
set_option maxHeartbeats 1000000 in
theorem places_no (D S T : Int) (h : isSh D S T = false) (w : World) :
    Calls Try.prog 12 #[.agg #[.int .i64 D, .int .i64 S, .int .i64 T]] w fun e w' => e = .returned (.int .i64 0) ∧ Below w.heap.size w w' := by
  go_enter Try.func12, Try.ntmps12
  go_wp2_with fail
  refine (deal_right D S T _).mono ?_
  rintro e w1 ⟨rfl, hb1⟩
  rw [h]
  have HB := Lib.hid (((Below.refl _ w).alloc (Nat.le_refl _) (.cells #[.int .i64 D, .int .i64 S, .int .i64 T] 23)).trans (hb1.mono (by simp)))
  clear hb1
  go_wp2_with fail
  go_ret
  exact ⟨rfl, HB.out⟩
/-- A place, or none. -/
def optI : Option Nat → Int
  | some p => p
  | none => -1
/-- The dealer's cells. -/
def dlc (D S T lv on st : Int) : Array Value := #[.int .i64 D, .int .i64 S, .int .i64 T, .int .i64 lv, .int .i64 on, .int .i64 st]
set_option maxHeartbeats 1000000 in
theorem next_stash (D S T L st : Nat) (lv on : Int) (p : Nat) (h1 : D ≤ 10) (h3 : S ≤ 8) (h5 : T ≤ 64) (hL : (D + 1) * S = L) (hst : st ≤ T) (w : World)
    (hB : Box w p 47 #[.int .i64 (D : Int), .int .i64 (S : Int), .int .i64 (T : Int), .int .i64 lv, .int .i64 on, .int .i64 (st : Int)]) :
    Calls Try.prog 25 #[.pointer (some ⟨p, 0, none⟩)] w fun e w' =>
      e = .returned (.int .i64 (if st < T then ((L + st : Nat) : Int) else -1)) ∧ Box w' p 47 #[.int .i64 (D : Int), .int .i64 (S : Int), .int .i64 (T : Int), .int .i64 lv, .int .i64 on, .int .i64 ((if st < T then st + 1 else st : Nat) : Int)] ∧ Only (just p) w w' := by
  have hl := (mul_places h1 h3 hL).2
  have HS := Lib.hid (fun W => stash_from D S T L h1 h3 hL W)
  clear hL
  have c0 := hB.cell 0
  have c1 := hB.cell 1
  have c2 := hB.cell 2
  have c3 := hB.cell 3
  have c4 := hB.cell 4
  have c5 := hB.cell 5
  have HB := Lib.hid hB
  by_cases hlt : st < T
  · rw [if_pos hlt, if_pos hlt]
    have hne : ((st : Int) == (T : Int)) = false := by rw [beq_eq_false_iff_ne]; omega
    clear hB
    go_enter Try.func25, Try.ntmps25
    go_wp2_with fail
    go_quiet (fail)
    have g0 := Gr.cell (w := w.drewN nq) c0
    have g1 := Gr.cell (w := w.drewN nq) c1
    have g2 := Gr.cell (w := w.drewN nq) c2
    have g5 := Gr.cell (w := w.drewN nq) c5
    go_wp2_with fail
    refine wp_region_grow (by kernel_rfl) (by kernel_rfl) ?_
    repeat (go_big_quiet_step (first | (go_at_call 20; exact Gr.blw (HS.out _))))
    refine wpQuiet_nil ?_
    intro w9 hw9
    obtain ⟨G, hG⟩ := hw9
    subst hG
    have hB9 : Box G.w' p _ _ := (HB.out.drewN nq).only G.ok (not_nobody _)
    have f5 := hB9.frozen 5
    have k5 := hB9.cell 5
    have HE : Hid (Box (G.w'.setCell ⟨p, 5, none⟩ (.int .i64 ((st : Int) + 1))) p 47 #[.int .i64 (D : Int), .int .i64 (S : Int), .int .i64 (T : Int), .int .i64 lv, .int .i64 on, .int .i64 ((st : Int) + 1)]) := hB9.put 5 _
    have HO : Hid (Only (just p) w (G.w'.setCell ⟨p, 5, none⟩ (.int .i64 ((st : Int) + 1)))) := ((((Only.refl (just p) w).drewN nq).then G.ok (fun i k => absurd k (not_nobody i))).setCell (p := ⟨p, 5, none⟩) (.inl (just_self p)) _)
    clear hB9 g0 g1 g2 g5 c0 c1 c2 c3 c4 c5 HB
    go_wp2_with fail
    go_ret
    rw [show ((st + 1 : Nat) : Int) = (st : Int) + 1 by omega]
    exact ⟨ret_int (by omega), HE.out, HO.out⟩
  · rw [if_neg hlt, if_neg hlt]
    have hne : ((st : Int) == (T : Int)) = true := by rw [beq_iff_eq]; omega
    clear hB
    go_enter Try.func25, Try.ntmps25
    go_wp2_with fail
    go_quiet (fail)
    go_wp2_with fail
    go_ret
    exact ⟨rfl, HB.out.drewN nq, (Only.refl _ _).drewN nq⟩
/-- What a deal makes of what is left, and where the item goes. -/
def stp (S L T r st d : Nat) : Option Nat × Nat × Nat :=
  if min r ((d + 1) * S) = 0 then (if st < T then (some (L + st), 0, st + 1) else (none, 0, st)) else (some (rv S (min r ((d + 1) * S) - 1)), min r ((d + 1) * S) - 1, st)
theorem dl_cons (S L T r st d : Nat) (ds : List Nat) : dl S L T r st (d :: ds) = (stp S L T r st d).1 :: dl S L T (stp S L T r st d).2.1 (stp S L T r st d).2.2 ds := by
  unfold stp
  conv => lhs; unfold dl
  split
  · split <;> rfl
  · rfl
def NxPost (w : World) (p D S T : Nat) (x : Option Nat × Nat × Nat) (e : Ending) (w' : World) : Prop :=
  e = .returned (.int .i64 (optI x.1)) ∧ ∃ (lv : Int) (on : Nat), Box w' p 47 #[.int .i64 (D : Int), .int .i64 (S : Int), .int .i64 (T : Int), .int .i64 lv, .int .i64 (on : Int), .int .i64 (x.2.2 : Int)] ∧ LvAt S x.2.1 lv on ∧ Only (just p) w w'
/-- Where the second half begins: a level of its own, and how many of its slots are taken. -/
theorem stp_put {S L T r st d l on : Nat} (hv : LvAt S (min r ((d + 1) * S)) (l : Int) on) : stp S L T r st d = (some (l * S + on), min r ((d + 1) * S) - 1, st) := by
  obtain ⟨h1, _, h2, _⟩ := hv.put
  unfold stp
  rw [if_neg h1, h2]
/-- Behind the first if: the level, and how many of its slots are taken. -/
def MidAt (w : World) (p D S T st R : Nat) (w' : World) : Prop :=
  ∃ (l : Int) (o : Nat), Box w' p 47 #[.int .i64 (D : Int), .int .i64 (S : Int), .int .i64 (T : Int), .int .i64 l, .int .i64 (o : Int), .int .i64 (st : Int)] ∧ LvAt S R l o ∧ Only (just p) w w'
set_option maxRecDepth 100000 in
set_option maxHeartbeats 2000000 in
theorem next_any (D S T L st r d on : Nat) (lv : Int) (p : Nat) (h1 : D ≤ 10) (h3 : S ≤ 8) (h5 : T ≤ 64) (hL : (D + 1) * S = L) (hr : r ≤ L) (hst : st ≤ T) (hv : LvAt S r lv on) (w : World)
    (hB : Box w p 47 #[.int .i64 (D : Int), .int .i64 (S : Int), .int .i64 (T : Int), .int .i64 lv, .int .i64 (on : Int), .int .i64 (st : Int)]) :
    Calls Try.prog 18 #[.pointer (some ⟨p, 0, none⟩), .int .i64 (d : Int)] w (NxPost w p D S T (stp S L T r st d)) := by
  have HB := Lib.hid hB
  have c3 := hB.cell 3
  have c4 := hB.cell 4
  have f3 := hB.frozen 3
  have f4 := hB.frozen 4
  have HV := Lib.hid hv
  have HS := Lib.hid (fun (l on : Nat) (h : LvAt S (min r ((d + 1) * S)) (l : Int) on) => (stp_put (L := L) (T := T) (st := st) h : stp S L T r st d = _))
  have HZ : Hid (min r ((d + 1) * S) = 0 → stp S L T r st d = if st < T then (some (L + st), 0, st + 1) else (none, 0, st)) := Lib.hid (fun h => by unfold stp; rw [if_pos h])
  have hR : min r ((d + 1) * S) ≤ (D + 1) * S := by omega
  obtain ⟨R, hRe⟩ : ∃ R, min r ((d + 1) * S) = R := ⟨_, rfl⟩
  have HDr := Lib.hid (fun (h : (d : Int) < lv) => hv.drop h)
  have HK := Lib.hid (fun (h : ¬ (d : Int) < lv) => hv.keep h)
  have HL := Lib.hid hL
  rw [hRe] at HS HZ HDr HK hR
  have HR := Lib.hid hR
  generalize stp S L T r st d = x at *
  clear hB hv hRe hL hR hr
  go_enter Try.func18, Try.ntmps18
  go_upto_if 11 with fail
  go_cut [4] from 6 (fun s w' => s = .int .i64 0 ∧ MidAt w p D S T st R w')
  case first =>
    by_cases hdl : (d : Int) < lv
    · go_wp2_with fail
      go_meet
      case rel => exact ⟨rfl, (d : Int), 0, (HB.out.put 3 _).put 4 _, HDr.out hdl, ((Only.refl (just p) w).setCell (p := ⟨p, 3, none⟩) (.inl (just_self p)) (.int .i64 (d : Int))).setCell (p := ⟨p, 4, none⟩) (.inl (just_self p)) (.int .i64 0)⟩
    · go_wp2_with fail
      go_meet
      case rel => exact ⟨rfl, lv, on, HB.out, by rw [HK.out hdl]; exact HV.out, Only.refl _ _⟩
  case rest =>
    obtain ⟨rfl, l, o, hB2, hv2, hO2⟩ := hcut
    clear HB HV HDr HK c3 c4 f3 f4
    have HO := Lib.hid hO2
    have HB := Lib.hid hB2
    clear hO2
    have c1 := hB2.cell 1
    have c3 := hB2.cell 3
    have c4 := hB2.cell 4
    have f3 := hB2.frozen 3
    have f4 := hB2.frozen 4
    clear hB2
    by_cases hl : l < 0
    · obtain ⟨rfl, rfl, rfl⟩ := hv2.none hl
      clear hv2 HS c1 c4 f3 f4 HR hl
      have hx := HZ.out rfl
      by_cases hlt : st < T
      · skip
        rw [if_pos hlt] at hx
        have HX := Lib.hid hx
        have hns := next_stash D S T L st _ _ p h1 h3 h5 HL.out hst _ HB.out
        rw [if_pos hlt, if_pos hlt] at hns
        have HN := Lib.hid hns
        clear hx hns HZ
        go_wp2_with fail
        refine HN.out.mono ?_
        rintro e w4 ⟨rfl, hB4, hO4⟩
        have HB4 := Lib.hid hB4
        have HO4 := Lib.hid (HO.out.trans hO4)
        clear hB4 hO4 HO HB HN
        go_wp2_with fail
        go_ret
        rw [HX.out]
        exact ⟨rfl, _, _, HB4.out, .inl ⟨rfl, rfl, rfl⟩, HO4.out⟩
      · skip
        rw [if_neg hlt] at hx
        have HX := Lib.hid hx
        have hns := next_stash D S T L st _ _ p h1 h3 h5 HL.out hst _ HB.out
        rw [if_neg hlt, if_neg hlt] at hns
        have HN := Lib.hid hns
        clear hx hns HZ
        go_wp2_with fail
        refine HN.out.mono ?_
        rintro e w4 ⟨rfl, hB4, hO4⟩
        have HB4 := Lib.hid hB4
        have HO4 := Lib.hid (HO.out.trans hO4)
        clear hB4 hO4 HO HB HN
        go_wp2_with fail
        go_ret
        rw [HX.out]
        exact ⟨rfl, _, _, HB4.out, .inl ⟨rfl, rfl, rfl⟩, HO4.out⟩
    · obtain ⟨k, rfl⟩ := Int.eq_ofNat_of_zero_le (a := l) (by omega)
      have hk := LvAt.le hv2 HR.out
      have hx := HS.out k o hv2
      obtain ⟨_, hon, _, hfull, hmore⟩ := hv2.put
      have HF := Lib.hid hfull
      have HM := Lib.hid hmore
      have hP : k * S ≤ 80 := Nat.mul_le_mul (show k ≤ 10 by omega) h3
      have hm : (k : Int) * (S : Int) = ((k * S : Nat) : Int) := by simp
      have HX := Lib.hid hx
      clear hv2 hfull hmore HS HZ hx HL HR hl
      have hwr : IntKind.i64.wrap ((k : Int) * (S : Int)) = ((k * S : Nat) : Int) := by rw [hm, IntKind.wrap_i64]; omega
      have hws : IntKind.i64.wrap (((k * S : Nat) : Int) + (o : Int)) = ((k * S : Nat) : Int) + (o : Int) := by rw [IntKind.wrap_i64]; omega
      generalize hPe : k * S = P at *
      have HP := Lib.hid hPe
      clear hPe
      have d0 : decide ((k : Int) < 0) = false := by simp
      by_cases hS : o + 1 = S
      · have hq : ((o : Int) + 1 == (S : Int)) = true := by rw [beq_iff_eq]; omega
        go_wp2_with fail
        go_quiet (fail)
        have HB5 := Lib.hid (HB.out.drewN nq)
        have HO5 := Lib.hid (HO.out.drewN nq)
        clear HB HO c1 c3 c4 f3 f4
        generalize wc.drewN nq = w5 at *
        have c4 := HB5.out.cell 4
        have f4 := HB5.out.frozen 4
        go_upto_region 7 with fail
        have HB6 : Hid (Box (w5.setCell ⟨p, 4, none⟩ (.int .i64 ((o : Int) + 1))) p 47 #[.int .i64 (D : Int), .int .i64 (S : Int), .int .i64 (T : Int), .int .i64 (k : Int), .int .i64 ((o : Int) + 1), .int .i64 (st : Int)]) := HB5.out.put 4 _
        have HO6 := Lib.hid (HO5.out.setCell (p := ⟨p, 4, none⟩) (.inl (just_self p)) (.int .i64 ((o : Int) + 1)))
        clear HB5 HO5 c4 f4
        generalize w5.setCell ⟨p, 4, none⟩ (.int .i64 ((o : Int) + 1)) = w6 at *
        have c1 := HB6.out.cell 1
        have c4 := HB6.out.cell 4
        go_quiet (fail)
        have HB7 := Lib.hid (HB6.out.drewN nq)
        have HO7 := Lib.hid (HO6.out.drewN nq)
        clear HB6 HO6 c1 c4
        generalize w6.drewN nq = w7 at *
        have c3 := HB7.out.cell 3
        have c4 := HB7.out.cell 4
        have f3 := HB7.out.frozen 3
        have f4 := HB7.out.frozen 4
        have HB8 : Hid (Box ((w7.setCell ⟨p, 3, none⟩ (.int .i64 ((k : Int) - 1))).setCell ⟨p, 4, none⟩ (.int .i64 0)) p 47 #[.int .i64 (D : Int), .int .i64 (S : Int), .int .i64 (T : Int), .int .i64 ((k : Int) - 1), .int .i64 0, .int .i64 (st : Int)]) := (HB7.out.put 3 _).put 4 _
        have HO8 := Lib.hid ((HO7.out.setCell (p := ⟨p, 3, none⟩) (.inl (just_self p)) (.int .i64 ((k : Int) - 1))).setCell (p := ⟨p, 4, none⟩) (.inl (just_self p)) (.int .i64 0))
        clear HB7 HO7
        go_wp2_with fail
        go_ret
        rw [HX.out]
        exact ⟨ret_int (by show _ = ((P + o : Nat) : Int); simp), _, 0, HB8.out, HF.out hS, HO8.out⟩
      · have hq : ((o : Int) + 1 == (S : Int)) = false := by rw [beq_eq_false_iff_ne]; omega
        go_wp2_with fail
        go_quiet (fail)
        have HB5 := Lib.hid (HB.out.drewN nq)
        have HO5 := Lib.hid (HO.out.drewN nq)
        clear HB HO c1 c3 c4 f3 f4
        generalize wc.drewN nq = w5 at *
        have c4 := HB5.out.cell 4
        have f4 := HB5.out.frozen 4
        go_upto_region 7 with fail
        have HB6 : Hid (Box (w5.setCell ⟨p, 4, none⟩ (.int .i64 ((o : Int) + 1))) p 47 #[.int .i64 (D : Int), .int .i64 (S : Int), .int .i64 (T : Int), .int .i64 (k : Int), .int .i64 ((o : Int) + 1), .int .i64 (st : Int)]) := HB5.out.put 4 _
        have HO6 := Lib.hid (HO5.out.setCell (p := ⟨p, 4, none⟩) (.inl (just_self p)) (.int .i64 ((o : Int) + 1)))
        clear HB5 HO5 c4 f4
        generalize w5.setCell ⟨p, 4, none⟩ (.int .i64 ((o : Int) + 1)) = w6 at *
        have c1 := HB6.out.cell 1
        have c4 := HB6.out.cell 4
        go_quiet (fail)
        have HB7 := Lib.hid (HB6.out.drewN nq)
        have HO7 := Lib.hid (HO6.out.drewN nq)
        clear HB6 HO6 c1 c4
        generalize w6.drewN nq = w7 at *
        go_wp2_with fail
        go_ret
        rw [HX.out]
        exact ⟨ret_int (by show _ = ((P + o : Nat) : Int); simp), _, o + 1, HB7.out, HM.out hS, HO7.out⟩
end Go.Proofs.Ytnpddimepcblkaa
