/- laid: a memory, and the document's, of so many regions of so many cells, with words in the cells of the first one; of what was in memory nothing turns. Conditions: as many regions and cells as there can be. -/
import Derived.Test.YtgppediikggogaaMix
import Derived.Test.YtgppediikggogaaLawCell
namespace Go.Proofs.Ytgppediikggogaa
open Go.RowKit Go.ChangeShapes Go.WideShapes Go.ChangeAt

/-- What laid makes: behind i words. -/
def laidM (k s : Nat) (z : Nat → Int) (i : Nat) : MS := ⟨k, fun _ => s, fun r a => if r = 0 ∧ a < i then cw (z a) else fun _ => 0, (List.range i).map (fun a => (0, a, true)), false⟩
theorem laidM_zero (k s : Nat) (z : Nat → Int) : laidM k s z 0 = MS.new k (fun _ => s) := by
  unfold laidM MS.new
  congr 1
  funext r a
  rw [if_neg (by omega)]
theorem laidM_step (k s : Nat) (z : Nat → Int) (i : Nat) (hk : 0 < k) (hi : i < s) : (laidM k s z i).write (0 : Int) (i : Int) (cw (z i)) = laidM k s z (i + 1) := by
  have hh : (laidM k s z i).hit (0 : Int) (i : Int) = true := MS.hit_of (M := laidM k s z i) (r := 0) (a := i) hk hi
  unfold MS.write
  rw [if_pos hh]
  unfold MS.see MS.put laidM
  simp only [Int.toNat_natCast, Int.toNat_zero]
  congr 1
  · funext r a
    by_cases h1 : r = 0 ∧ a = i
    · rw [if_pos h1, if_pos ⟨h1.1, by omega⟩, h1.2]
    · rw [if_neg h1]
      by_cases h2 : r = 0 ∧ a < i
      · rw [if_pos h2, if_pos ⟨h2.1, by omega⟩]
      · rw [if_neg h2, if_neg (fun h => by
          by_cases e : a = i
          · exact h1 ⟨h.1, e⟩
          · exact h2 ⟨h.1, by omega⟩)]
  · rw [List.range_succ, List.map_append]; rfl
theorem laidM_wd (k s : Nat) (z : Nat → Int) (i : Nat) : (laidM k s z i).wd := by
  intro r a
  show Wd (if r = 0 ∧ a < i then cw (z a) else fun _ => 0)
  split
  · exact cw_rng _
  · exact wd_zero
theorem laidM_len (k s : Nat) (z : Nat → Int) (i : Nat) : (laidM k s z i).es.length = i := by simp [laidM]
theorem infoInt : (Try.prog.info? 3).map (fun i => (i.zero, i.size, i.bytes)) = some (some (.int .i64 0), 1, 8) := by kernel_rfl
theorem new_int (W : World) (t : TypeId) (a : Value) {b : Nat} (hb : b = W.heap.size) : ∀ j u, [a][j]? = some u → (W.alloc (.cells #[a] t)).cell? ((⟨b, 0, none⟩ : Addr).add j) = some u := by
  subst hb
  intro j u h
  have := (Box.new W t #[a]).cell j
  rw [add_plain, Nat.zero_add, this]
  simpa using h
/-- The sizes so far. -/
structure SzAt (w : World) (s i : Nat) (v : Value) (wr : World) : Prop where
  own : wr.ownsRow w.heap.size 3 1 v i (List.replicate i (.int .i64 (s : Int)))
  below : Below w.heap.size w wr
theorem SzAt.next {w wr w7 : World} {s i cap : Nat} {v : Value} {A : Option Addr} {t : TypeId} (h : SzAt w s i v wr) (ho : w7.ownsRow w.heap.size 3 1 (.slice A (i + 1) cap) (i + 1) (List.replicate i (.int .i64 (s : Int)) ++ [.int .i64 (s : Int)])) (hg : (wr.alloc (.cells #[.int .i64 (s : Int)] t)).grownBy w7 v.ownBlock) : SzAt w s (i + 1) (.slice A (i + 1) cap) w7 := by
  constructor
  · rw [List.replicate_succ']
    exact ho
  · refine (h.below.alloc h.below.size _).grown hg (by have := h.below.size; simp; omega) (fun b e => ?_)
    rcases h.own.2 with ⟨rfl, _⟩ | ⟨g, cap, cur, rfl, hb, _⟩
    · simp [Value.ownBlock] at e
    · obtain rfl : g = b := by simpa [Value.ownBlock] using e
      exact hb
theorem SzAt.nums {w wr : World} {s i : Nat} {v : Value} (h : SzAt w s i v wr) : ∃ A cap, v = .slice A i cap ∧ Nums .i64 wr wr.heap.size A i (fun _ => (s : Int)) := by
  have h' := h.own
  rcases h.own.2 with ⟨rfl, h0⟩ | ⟨g, cap, cur, rfl, _, hg, _⟩
  · exact ⟨none, 0, by rw [h0], fun hn => by omega⟩
  · refine ⟨_, cap, rfl, fun _ => ⟨g, 0, rfl, (Array.getElem?_eq_some_iff.1 hg).1, fun j hj => ?_⟩⟩
    have := h'.cells (g := g) rfl j (.int .i64 (s : Int)) (by simp [hj])
    rwa [add_plain] at this
theorem kept_old {w w' : World} (h : Kept (old w) w w') : Only nobody w w' := ⟨h.os, h.tape, h.output, h.size, fun k hk _ => h.block k hk (fun hn => hn hk)⟩
/-- Behind laid. -/
def LaidPost (w : World) (k s : Nat) (z : Nat → Int) (n : Nat) (e : Ending) (w' : World) : Prop := ∃ p q, e = .returned (.tuple #[.pointer (some ⟨p, 0, none⟩), .pointer (some ⟨q, 0, none⟩)]) ∧ Mix w' (old w) p (laidM k s z (min n s)) q (laidM k s z (min n s)) ∧ Only nobody w w'
/-- Between two words. -/
def LaidAt (w : World) (p q k s : Nat) (z : Nat → Int) (i : Nat) (wr : World) : Prop := Mix wr (old w) p (laidM k s z i) q (laidM k s z i) ∧ Kept (old w) w wr
set_option maxRecDepth 100000 in
set_option maxHeartbeats 1000000 in
theorem laid_any (k s : Nat) (a : Option Addr) (n cap B : Nat) (z : Nat → Int) (w : World) (hk1 : 1 ≤ k) (hk2 : k ≤ 16) (hs1 : 1 ≤ s) (hs2 : s ≤ 4096) (hz : Nums .u64 w B a n z) (hB : B ≤ w.heap.size) :
    Calls Try.prog 9 #[.int .i64 (k : Int), .int .i64 (s : Int), .slice a n cap] w (LaidPost w k s z n) := by
  have HZ := Lib.hid hz
  clear hz
  go_enter Try.func9, Try.ntmps9
  go_wp2_with fail
  go_loopw [8, 9] (fun v8 v wr => ∃ i : Nat, v = .int .i64 i ∧ i ≤ k ∧ SzAt w s i v8 wr) (fun _ v _ => k - (intOf v).toNat)
  case atStart => exact ⟨0, rfl, Nat.zero_le _, World.ownsRow_nil _ _ _ _, Below.refl _ _⟩
  case round =>
    obtain ⟨i, rfl, hi, hS⟩ := hrel
    have HS := Lib.hid hS
    clear hS
    by_cases hlt : i < k
    · have hsz := HS.out.below.size
      go_wp2_with (with_reducible refine wpList_append_where _ rfl (.tmp 20) (.tmp 22) 57 rfl w.heap.size 3 (.int .i64 0) 1 8 Try.underlying57 infoInt rfl (by decide) u8 i (List.replicate i (.int .i64 (s : Int))) rfl (HS.out.own.alloc _) ⟨wr.heap.size, 0, none⟩ 1 1 [.int .i64 (s : Int)] rfl rfl (new_int _ _ _ rfl) ?c1 ?c2 ?c3 ?c4 ?_)
      case c1 => simp [Value.oneCell']
      case c2 => simp only [maxLen]; omega
      case c3 => omega
      case c4 => simp; omega
      intro A cap1 w7 hown hgr _
      have HY := Lib.hid (HS.out.next hown hgr)
      clear hown hgr
      go_wp2_with fail
      go_roundw
      case rel => exact ⟨i + 1, by go_num, by omega, HY.out⟩
      case measure => simp [intOf]; omega
    · obtain rfl : i = k := by omega
      obtain ⟨A, cap1, rfl, hnum⟩ := HS.out.nums
      have HNM := Lib.hid hnum
      have HB0 := Lib.hid HS.out.below
      have hsz := HS.out.below.size
      clear hnum HS
      have hfit : Fits i (fun _ => (s : Int)) := ⟨hk1, hk2, fun _ _ => ⟨by show 1 ≤ (s : Int); omega, by show (s : Int) ≤ 4096; omega⟩⟩
      have HFT := Lib.hid hfit
      clear hfit
      go_wp2_with fail
      refine (new_yes A i cap1 wr.heap.size _ (fun _ => s) _ HNM.out (Nat.le_refl _) HFT.out (fun _ _ => rfl)).mono ?_
      rintro e w2 ⟨p, F, rfl, hm, ho, hF⟩
      have O1 := Lib.hid (own_new (X := old w) (fun i (hi : i < w.heap.size) => Nat.lt_of_lt_of_le hi hsz) hm ho hF)
      have K1 : Hid (Kept (old w) w w2) := Kept.trans (Only.of_below HB0.out) (Kept.of_none ho)
      have HN2 := Lib.hid ((HNM.out.below ho.none).more ho.size)
      clear hm ho hF F HNM HB0
      go_wp2_with fail
      refine (rnew_yes A i cap1 w2.heap.size _ (fun _ => s) _ HN2.out (Nat.le_refl _) HFT.out (fun _ _ => rfl)).mono ?_
      rintro e w3 ⟨q, F, rfl, hm, ho, hF⟩
      have R3 : Hid (LaidAt w p q i s z 0 w3) := by
        show LaidAt w p q i s z 0 w3
        unfold LaidAt
        rw [laidM_zero]
        exact ⟨mix_new O1.out ho hm hF, K1.out.trans (Kept.of_none ho)⟩
      clear hm ho hF F K1 O1 HN2 HFT
      go_wp2_with fail
      go_loopw [14] (fun v wr => ∃ j : Nat, v = .int .i64 j ∧ j ≤ n ∧ j ≤ s ∧ LaidAt w p q i s z j wr) (fun v _ => n - (intOf v).toNat)
      case atStart => exact ⟨0, rfl, Nat.zero_le _, Nat.zero_le _, R3.out⟩
      case round =>
        obtain ⟨j, rfl, hjn, hjs, hD, hK⟩ := hrel
        have HD := Lib.hid hD
        have HK := Lib.hid hK
        clear hD hK R3
        by_cases h1 : j < n
        · by_cases h2 : j < s
          · have HKB := Lib.hid (HK.out.below (B := w.heap.size) (Nat.le_refl _) (fun i hi => hi))
            obtain ⟨b, off, rfl, hbB, hc⟩ := ((HZ.out.more hB).below HKB.out).at h1
            have HST := Lib.hid (laidM_step i s z j hk1 h2)
            have hel := laidM_len i s z j
            generalize laidM i s z j = M0 at *
            go_wp2_with fail
            refine (cell_only (z j) _).mono ?_
            rintro e w5 ⟨rfl, ho⟩
            have HD5 := Lib.hid (HD.out.none ho)
            have HK5 := Lib.hid (HK.out.trans (Kept.of_none ho))
            clear ho
            go_wp2_with fail
            refine (mix_write _ p q M0 M0 _ 0 (j : Int) (cw (z j)) HD5.out (by omega)).mono ?_
            rintro e w6 ⟨rfl, ho, hk⟩
            rw [HST.out] at ho
            have HD6 := Lib.hid ho
            have HK6 := Lib.hid (HK5.out.trans hk)
            clear ho hk HD5 HK5
            have HKB := Lib.hid (HK6.out.below (B := w.heap.size) (Nat.le_refl _) (fun i hi => hi))
            obtain ⟨b', off', hab, _, hc'⟩ := ((HZ.out.more hB).below HKB.out).at h1
            cases hab
            go_wp2_with fail
            refine (cell_only (z j) _).mono ?_
            rintro e w7 ⟨rfl, ho⟩
            have HD7 := Lib.hid (HD6.out.none ho)
            have HK7 := Lib.hid (HK6.out.trans (Kept.of_none ho))
            clear ho HD6 HK6
            go_wp2_with fail
            refine (mix_rwrite _ p q (laidM i s z (j + 1)) M0 _ 0 (j : Int) (cw (z j)) HD7.out (by omega)).mono ?_
            rintro e w8 ⟨rfl, ho, hk⟩
            rw [HST.out] at ho
            have HE : Hid (LaidAt w p q i s z (j + 1) w8) := ⟨ho, HK7.out.trans hk⟩
            clear ho hk HD7 HK7
            go_wp2_with fail
            go_roundw
            case rel => exact ⟨j + 1, by go_num, by omega, by omega, HE.out⟩
            case measure => simp [intOf]; omega
          · have hm : min n s = j := by omega
            have HE : Hid (Mix wr (old w) p (laidM i s z (min n s)) q (laidM i s z (min n s)) ∧ Only nobody w wr) := by
              refine ⟨?_, kept_old HK.out⟩
              rw [hm]; exact HD.out
            clear HD HK hm
            go_wp2_with fail
            go_ret2
            exact ⟨p, q, rfl, HE.out.1, HE.out.2⟩
        · have hm : min n s = j := by omega
          have HE : Hid (Mix wr (old w) p (laidM i s z (min n s)) q (laidM i s z (min n s)) ∧ Only nobody w wr) := by
            refine ⟨?_, kept_old HK.out⟩
            rw [hm]; exact HD.out
          clear HD HK hm
          go_wp2_with fail
          go_ret2
          exact ⟨p, q, rfl, HE.out.1, HE.out.2⟩
theorem laid_good (k s : Nat) (z : Nat → Int) (i : Nat) (hz : ∀ j, j < i → 0 ≤ z j ∧ z j ≤ 18446744073709551615) (a : Nat) : Good ((laidM k s z i).c 0 a) := by
  show Good (if 0 = 0 ∧ a < i then cw (z a) else fun _ => 0)
  split
  · rename_i h
    exact good_cw _ (hz a h.2).1 (hz a h.2).2
  · exact .inl rfl
/-- Two memories that were laid one behind the other. -/
theorem laid_duo {w1 w2 : World} {X : Nat → Prop} {p q p2 q2 : Nat} {M M' N N' : MS} (h : Mix w1 X p M q M') (ho : Only nobody w1 w2) (hn : Mix w2 (old w1) p2 N q2 N') : Duo w2 X p M p2 N := duo_new h.left ho hn.left
end Go.Proofs.Ytgppediikggogaa
