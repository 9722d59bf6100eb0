/- Texts of ours put together: DealNext, RefPlaces. -/
import Derived.StillTailTactics
import Derived.Deep.Cut
import Derived.Test.YteiilfdbddpodaaDoorG6
import Derived.Test.YteiilfdbddpodaaDoorG10
import Derived.Test.YteiilfdbddpodaaDoorG2
/- Places; the dealer: next, nextOfStash. -/
namespace Go.Proofs.YteiilfdbddpodaaDoor
set_option maxRecDepth 100000
open Go.RowKit Go.ChangeShapes Go.WideShapes Go.ChangeAt

/-- A callee that makes new blocks alone, told by Below. -/
theorem Gr.blw {P : Program} {f : FuncId} {args : Array Value} {w : World} {g : Gr w} {v : Value} (h : Calls P f args g.w' fun e w1 => e = .returned v ∧ Below g.w'.heap.size g.w' w1) :
    Calls P f args g.w' fun e w2 => e = .returned v ∧ ∃ g' : Gr w, w2 = g'.w' := Gr.calls (h.mono fun _ _ ⟨he, hb⟩ => ⟨he, Only.of_below hb⟩)
set_option maxHeartbeats 1000000 in
theorem places_in (D S T L n : Nat) (h1 : D ≤ 10) (h2 : 1 ≤ S) (h3 : S ≤ 8) (h4 : 1 ≤ T) (h5 : T ≤ 64) (hL : (D + 1) * S = L) (hn : L + T + 1 = n) (w : World) :
    Calls Tryd.prog 77 #[.agg #[.int .i64 (D : Int), .int .i64 (S : Int), .int .i64 (T : Int)]] w fun e w' => e = .returned (.int .i64 (n : Int)) ∧ Below w.heap.size w w' := by
  have hr := isSh_yes h1 h2 h3 h4 h5
  have hl := (mul_places h1 h3 hL).2
  have HS := Lib.hid (fun W => stash_from D S T L h1 h3 hL W)
  clear hL
  go_enter Tryd.func77, Tryd.ntmps77
  go_wp2_with fail
  refine (deal_right (D : Int) (S : Int) (T : Int) _).mono ?_
  rintro e w1 ⟨rfl, hb1⟩
  rw [hr]
  have hbx := (Box.new w 108 #[.int .i64 (D : Int), .int .i64 (S : Int), .int .i64 (T : Int)]).of (hb1.block _ (by simp))
  have HB := Lib.hid (((Below.refl _ w).alloc (Nat.le_refl _) (.cells #[.int .i64 (D : Int), .int .i64 (S : Int), .int .i64 (T : Int)] 108)).trans (hb1.mono (by simp)))
  have c0 := Gr.cell (hbx.cell 0)
  have c1 := Gr.cell (hbx.cell 1)
  have c2 := Gr.cell (hbx.cell 2)
  clear hb1 hbx hr
  go_wp2_with fail
  refine wp_region_grow (by kernel_rfl) (by kernel_rfl) ?_
  repeat (go_big_quiet_step (first | (go_at_call 81; exact Gr.blw (HS.out _))))
  refine wpQuiet_nil ?_
  intro w9 hw9
  obtain ⟨G, hG⟩ := hw9
  subst hG
  go_wp2_with fail
  go_ret
  exact ⟨ret_int (by omega), HB.out.trans (G.ok.none.mono HB.out.size)⟩
set_option maxHeartbeats 1000000 in
theorem places_no (D S T : Int) (h : isSh D S T = false) (w : World) :
    Calls Tryd.prog 77 #[.agg #[.int .i64 D, .int .i64 S, .int .i64 T]] w fun e w' => e = .returned (.int .i64 0) ∧ Below w.heap.size w w' := by
  go_enter Tryd.func77, Tryd.ntmps77
  go_wp2_with fail
  refine (deal_right D S T _).mono ?_
  rintro e w1 ⟨rfl, hb1⟩
  rw [h]
  have HB := Lib.hid (((Below.refl _ w).alloc (Nat.le_refl _) (.cells #[.int .i64 D, .int .i64 S, .int .i64 T] 108)).trans (hb1.mono (by simp)))
  clear hb1
  go_wp2_with fail
  go_ret
  exact ⟨rfl, HB.out⟩
/-- A place, or none. -/
def optI : Option Nat → Int
  | some p => p
  | none => -1
/-- The dealer's cells. -/
def dlc (D S T lv on st : Int) : Array Value := #[.int .i64 D, .int .i64 S, .int .i64 T, .int .i64 lv, .int .i64 on, .int .i64 st]
/-- What a deal makes of what is left, and where the item goes. -/
def stp (S L T r st d : Nat) : Option Nat × Nat × Nat :=
  if min r ((d + 1) * S) = 0 then (if st < T then (some (L + st), 0, st + 1) else (none, 0, st)) else (some (rv S (min r ((d + 1) * S) - 1)), min r ((d + 1) * S) - 1, st)
theorem dl_cons (S L T r st d : Nat) (ds : List Nat) : dl S L T r st (d :: ds) = (stp S L T r st d).1 :: dl S L T (stp S L T r st d).2.1 (stp S L T r st d).2.2 ds := by
  unfold stp
  conv => lhs; unfold dl
  split
  · split <;> rfl
  · rfl
/-- Where the second half begins: a level of its own, and how many of its slots are taken. -/
theorem stp_put {S L T r st d l on : Nat} (hv : LvAt S (min r ((d + 1) * S)) (l : Int) on) : stp S L T r st d = (some (l * S + on), min r ((d + 1) * S) - 1, st) := by
  obtain ⟨h1, _, h2, _⟩ := hv.put
  unfold stp
  rw [if_neg h1, h2]
end Go.Proofs.YteiilfdbddpodaaDoor

/- The document's Places of a shape. Nothing that was in memory changes. -/
namespace Go.Proofs.YteiilfdbddpodaaDoor
set_option maxRecDepth 100000
open Go.RowKit Go.ChangeShapes Go.WideShapes Go.ChangeAt

set_option maxHeartbeats 1000000 in
theorem ref_places (D S T L n : Nat) (h1 : D ≤ 10) (h2 : 1 ≤ S) (h3 : S ≤ 8) (h4 : 1 ≤ T) (h5 : T ≤ 64) (hL : (D + 1) * S = L) (hn : L + T + 1 = n) (w : World) :
    Calls Tryd.prog 67 #[.agg #[.int .i64 (D : Int), .int .i64 (S : Int), .int .i64 (T : Int)]] w fun e w' => e = .returned (.int .i64 (n : Int)) ∧ Below w.heap.size w w' := by
  have hr := isSh_yes h1 h2 h3 h4 h5
  have hl := mul_places h1 h3 hL
  have hmul := hl.1
  have hl2 := hl.2
  clear hL hl
  go_enter Tryd.func67, Tryd.ntmps67
  go_wp2_with fail
  refine (ref_right (D : Int) (S : Int) (T : Int) _).mono ?_
  rintro e w1 ⟨rfl, hb1⟩
  rw [hr]
  have hbx := (Box.new w 111 #[.int .i64 (D : Int), .int .i64 (S : Int), .int .i64 (T : Int)]).of (hb1.block _ (by simp))
  have HB := Lib.hid (((Below.refl _ w).alloc (Nat.le_refl _) (.cells #[.int .i64 (D : Int), .int .i64 (S : Int), .int .i64 (T : Int)] 111)).trans (hb1.mono (by simp)))
  have c0 := hbx.cell 0
  have c1 := hbx.cell 1
  have c2 := hbx.cell 2
  clear hb1 hbx hr
  go_wp2_with fail
  go_ret
  exact ⟨ret_int (by omega), HB.out⟩
set_option maxHeartbeats 1000000 in
theorem ref_places_no (D S T : Int) (h : isSh D S T = false) (w : World) :
    Calls Tryd.prog 67 #[.agg #[.int .i64 D, .int .i64 S, .int .i64 T]] w fun e w' => e = .returned (.int .i64 0) ∧ Below w.heap.size w w' := by
  go_enter Tryd.func67, Tryd.ntmps67
  go_wp2_with fail
  refine (ref_right D S T _).mono ?_
  rintro e w1 ⟨rfl, hb1⟩
  rw [h]
  have HB := Lib.hid (((Below.refl _ w).alloc (Nat.le_refl _) (.cells #[.int .i64 D, .int .i64 S, .int .i64 T] 111)).trans (hb1.mono (by simp)))
  clear hb1
  go_wp2_with fail
  go_ret
  exact ⟨rfl, HB.out⟩
end Go.Proofs.YteiilfdbddpodaaDoor
