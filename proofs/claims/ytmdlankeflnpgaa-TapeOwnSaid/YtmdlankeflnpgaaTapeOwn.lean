/- The walk of the law on ownership: what is done to the words that were handed in, or to those that were taken, does not change the tape. Conditions: the slice's cells hold numbers; it is no longer than memory can hold. -/
import Derived.Test.YtmdlankeflnpgaaTapeTwo
import Derived.OwnWalk
import Derived.Laws.AppendOwnNone
namespace Go.Proofs.Ytmdlankeflnpgaa
open Go.RowKit Go.ChangeShapes Go.WideShapes Go.ChangeAt

/-- append of a slice that came in, nil or not, to a row of the call's own. -/
theorem wpList_append_nums {P : Program} {w : World} {ops : Array Oper} {rest : List Oper} {o : Oper} {a : Act} {Q : Exit → Act → World → Prop} (hgd : o.guard = none) (s x : Operand) (t : TypeId)
    (ho : o.op = .call { callee := .builtin .append, args := #[s, x], argTypes := #[t, t] })
    (base : Nat) (e : TypeId) (i : TypeInfo) (zv : Value) (bytes : Nat) (ht : P.underlying t = some (.slice e)) (hi : P.info? e = some i) (hz : i.zero = some zv)
    (hsize : i.size = 1) (hby : i.bytes = bytes) (hzs : zv.cells.size = 1)
    (v : Value) (n : Nat) (xs : List Value) (hs : a.eval s = v) (hown : w.ownsRow base e 1 v n xs)
    (A : Option Addr) (m c B : Nat) (z : Nat → Int) (hx : a.eval x = .slice A m c) (hr : Nums .u64 w B A m z) (hq : A = none → m = 0 ∧ c = 0)
    (h63 : n + m ≤ maxLen) (hbytes : (n + m) * bytes ≤ 140737488355328) (hbase : base ≤ w.heap.size)
    (h : ∀ v' w', w'.ownsRow base e 1 v' (n + m) (xs ++ wordsOf m z) → w.grownBy w' v.ownBlock → (v' = .slice none 0 0 → v = .slice none 0 0) → wpList P ops Q rest (a.put o.dst v') w') : wpList P ops Q (o :: rest) a w := by
  rcases A with _ | ad
  · obtain ⟨rfl, rfl⟩ := hq rfl
    exact wpList_append_own_none hgd s x t ho base e i 1 ht hi v n xs hs hown hx (h v w (by simpa [wordsOf] using hown) (World.grownBy.refl w _) id)
  · refine wpList_append_own w hgd s x t ho base e i zv 1 bytes ht hi hz hsize hby hzs (by decide) v n xs hs hown ad m c (wordsOf m z) hx (by rw [wordsOf_len, Nat.mul_one]) (fun j u hu => ?_) (wordsOf_one _ _) h63 hbytes hbase (fun v' w' h1 h2 h3 => h v' w' h1 h2 (fun e => (h3.1 e).1))
    have hj : j < m := by have := (List.getElem?_eq_some_iff.1 hu).1; rwa [wordsOf_len] at this
    rw [wordsOf_at m z j hj] at hu
    obtain ⟨b, off, e, _, hc⟩ := hr.at hj
    injection e with e
    subst e
    rw [add_plain]
    exact hc.trans hu

/-- In the law's loops: the tape as it was read; the row that was handed in holds some words; of the row that was taken the first k are noughts. -/
structure Owned (W : World) (gw p g r n : Nat) (z : Nat → Int) (K k u : Nat) (wr : World) : Prop where
  one : One W wr p g n z u
  row : wr.rowIs r 30 K (fun i => .int .u64 (if i < k then 0 else z i))
  box : ∃ cur, Box wr gw 30 cur ∧ ∀ i, i < n → ∃ x : Int, cur[i]? = some (.int .u64 x)
  w0 : W.heap.size ≤ gw
  r0 : W.heap.size ≤ r
  wp : gw ≠ p
  wg : gw ≠ g
  wr : gw ≠ r
  rp : r ≠ p
  rg : r ≠ g
section
variable {W wr w1 : World} {gw p g r n : Nat} {z : Nat → Int} {K k u : Nat}
theorem Owned.write (h : Owned W gw p g r n z K k u wr) (j : Nat) (y : Int) : Owned W gw p g r n z K k u (wr.setCell ⟨gw, j, none⟩ (.int .u64 y)) := by
  have ho : Only (just gw) wr (wr.setCell ⟨gw, j, none⟩ (.int .u64 y)) := (Only.refl _ _).setCell (.inl (just_self gw)) _
  obtain ⟨cur, hb, hc⟩ := h.box
  refine ⟨⟨h.one.tp.only ho (just_ne (Ne.symm h.wp)) (just_ne (Ne.symm h.wg)), h.one.p0, h.one.g0, below_only h.one.below ho h.one.below.size (fun i hi => just_ne (by have := h.w0; omega))⟩, ho.row h.row (just_ne (Ne.symm h.wr)),
    ⟨_, hb.put j _, fun i hi => ?_⟩, h.w0, h.r0, h.wp, h.wg, h.wr, h.rp, h.rg⟩
  obtain ⟨x, hx⟩ := hc i hi
  by_cases e : j = i
  · subst e
    have := (Array.getElem?_eq_some_iff.1 hx).1
    exact ⟨y, by simp [this]⟩
  · exact ⟨x, by rw [Array.getElem?_setIfInBounds, if_neg e]; exact hx⟩
theorem Owned.blank (h : Owned W gw p g r n z K k u wr) : Owned W gw p g r n z K (k + 1) u (wr.setCell ⟨r, k, none⟩ (.int .u64 0)) := by
  have ho : Only (just r) wr (wr.setCell ⟨r, k, none⟩ (.int .u64 0)) := (Only.refl _ _).setCell (.inl (just_self r)) _
  obtain ⟨cur, hb, hc⟩ := h.box
  refine ⟨⟨h.one.tp.only ho (just_ne (Ne.symm h.rp)) (just_ne (Ne.symm h.rg)), h.one.p0, h.one.g0, below_only h.one.below ho h.one.below.size (fun i hi => just_ne (by have := h.r0; omega))⟩, (h.row.set k _).congr fun i hi => ?_,
    ⟨cur, hb.only ho (just_ne h.wr), hc⟩, h.w0, h.r0, h.wp, h.wg, h.wr, h.rp, h.rg⟩
  show (if i = k then _ else _) = _
  by_cases e : i = k
  · subst e; rw [if_pos rfl, if_pos (by omega)]
  · rw [if_neg e]
    by_cases l : i < k
    · rw [if_pos l, if_pos (by omega)]
    · rw [if_neg l, if_neg (by omega)]
theorem Owned.drewN (h : Owned W gw p g r n z K k u wr) (m : Nat) : Owned W gw p g r n z K k u (wr.drewN m) := ⟨h.one.drewN m, h.row, h.box, h.w0, h.r0, h.wp, h.wg, h.wr, h.rp, h.rg⟩
end

set_option maxRecDepth 100000 in
set_option maxHeartbeats 2000000 in
theorem own_walk (a : Option Addr) (n cap : Nat) (z : Nat → Int) (m t : Int) (K : Nat) (W : World) (hn : n * 8 ≤ 140737488351232) (hz : Nums .u64 W W.heap.size a n z) (hq : a = none → n = 0 ∧ cap = 0)
    (hmin : (if (n : Int) < m then (n : Int) else m) = t) (hmax : (if 0 < t then t else 0) = (K : Int)) (hK : K ≤ n) :
    Calls Try.prog 4 #[.slice a n cap, .int .i64 m] W (Yes W) := by
  have HZ := Lib.hid hz
  have HQ := Lib.hid hq
  obtain ⟨i0, hi, hz0, hz1, hz2⟩ := info_parts infoWord
  have HI := Lib.hid hi
  clear hz hq hi
  go_enter Try.func4, Try.ntmps4
  go_wp2_with fail
  refine (shown_any W).mono ?_
  rintro e w0 ⟨rfl, hb0⟩
  have B0 := Lib.hid hb0
  clear hb0
  have own0 : (w0.alloc (.cells #[] 30)).ownsRow W.heap.size 30 1 (.slice (some ⟨w0.heap.size, 0, none⟩) 0 0) 0 [] :=
    ⟨rfl, .inr ⟨w0.heap.size, 0, #[], rfl, B0.out.size, Go.Deep.blk_alloc_new _ _, Nat.le_refl _, by unfold maxLen; omega, rfl, rfl⟩⟩
  have BA := Lib.hid (B0.out.alloc B0.out.size (.cells #[] 30))
  go_wp2_with (at_builtin; refine wpList_append_nums rfl (.tmp 17) (.tmp 18) 22 rfl W.heap.size 30 i0 (.int .u64 0) 8 Try.underlying22 HI.out hz0 hz1 hz2 rfl _ 0 [] rfl own0 a n cap W.heap.size z rfl (HZ.out.below BA.out) HQ.out (by unfold maxLen; omega) (by omega) BA.out.size ?_)
  intro v5 w5 hown5 hgrow5 hnn5
  obtain ⟨gw, cw, cur, rfl, hgw, hcw, hbox, hcur⟩ := own_at hown5 (fun e => by cases hnn5 e)
  have B5 := Lib.hid (BA.out.grown hgrow5 BA.out.size (fun k hk => by injection hk with hk; have := B0.out.size; subst hk; exact this))
  have X5 := Lib.hid hbox
  have C5 := Lib.hid hcur
  have hgs := hbox.lt
  clear hown5 hgrow5 hnn5 hbox hcur own0 hz0 hz1 hz2
  go_wp2_with fail
  refine (new_any (some ⟨gw, 0, none⟩) n cw z _ hn (fun _ => ⟨gw, 0, rfl, hgs, fun j hj => by rw [Nat.zero_add, X5.out.cell]; exact C5.out j hj⟩)).mono ?_
  rintro e w6 ⟨p, g, rfl, hp, hg, ho, ht⟩
  have O6 := Lib.hid (One.new B5.out hp hg ho ht)
  have X6 := Lib.hid (X5.out.only ho (not_nobody _))
  clear ho ht
  go_wp2_with fail
  refine (take_any p g n z 0 K _ (by omega) (by omega) O6.out.tp).mono ?_
  rintro e w7 ⟨rfl, ho, hs, ht, hr⟩
  rw [Nat.zero_add] at ht
  have I7 := Lib.hid (show Owned W gw p g w6.heap.size n z K 0 K w7 from ⟨O6.out.next ho ht, hr.congr (fun i hi => by rw [Nat.zero_add, told_some (by omega), if_neg (by omega)]),
    ⟨cur, X6.out.only ho (just_ne (by omega)), fun i hi => ⟨_, C5.out i hi⟩⟩, hgw, O6.out.below.size, by omega, by omega, by have := X6.out.lt; omega, by have := O6.out.tp.box.lt; omega, by have := O6.out.tp.row.lt; omega⟩)
  clear ho ht hs hr hmin hmax
  go_wp2
  go_loopw [9] (fun i wr => ∃ k : Nat, i = .int .i64 k ∧ k ≤ n ∧ Owned W gw p g w6.heap.size n z K 0 K wr) (fun i _ => n - (intOf i).toNat)
  case atStart => exact ⟨0, rfl, Nat.zero_le _, I7.out⟩
  case round =>
    obtain ⟨k, rfl, hk, hI⟩ := hrel
    have HI8 := Lib.hid hI
    by_cases hlt : k < n
    · obtain ⟨cur8, hb8, hc8⟩ := hI.box
      obtain ⟨x, hx⟩ := hc8 k hlt
      have c8 : wr.cell? ⟨gw, k, none⟩ = some (.int .u64 x) := (hb8.cell k).trans hx
      have f8 : wr.frozen? ⟨gw, k, none⟩ = false := hb8.frozen k
      clear hI hb8 hc8 hx
      go_wp2
      go_roundw
      case rel => exact ⟨k + 1, by go_num, by omega, HI8.out.write k _⟩
      case measure => simp [intOf]; omega
    · clear hI
      go_wp2
      go_loopw [10] (fun i wr => ∃ k : Nat, i = .int .i64 k ∧ k ≤ K ∧ Owned W gw p g w6.heap.size n z K k K wr) (fun i _ => K - (intOf i).toNat)
      case atStart => exact ⟨0, rfl, Nat.zero_le _, HI8.out⟩
      case round =>
        obtain ⟨j, rfl, hj, hI⟩ := hrel
        have HI9 := Lib.hid hI
        clear hI
        by_cases hlj : j < K
        · obtain ⟨b, off, rfl, hbW, hcz⟩ := HZ.out.at (show j < n by omega)
          have cz : wr.cell? ⟨b, off + j, none⟩ = some (.int .u64 (z j)) := ((HI9.out.one.below).cell (p := ⟨b, off + j, none⟩) hbW).trans hcz
          have cr : wr.cell? ⟨w6.heap.size, j, none⟩ = some (.int .u64 (z j)) := by rw [HI9.out.row.cell hlj, if_neg (by omega)]
          have fr : wr.frozen? ⟨w6.heap.size, j, none⟩ = false := HI9.out.row.frozen j
          clear hcz
          go_wp2
          go_quiet (fail)
          go_wp2
          go_roundw
          case rel => exact ⟨j + 1, by go_num, by omega, (HI9.out.drewN _).blank⟩
          case measure => simp [intOf]; omega
        · go_wp2
          have O9 := Lib.hid HI9.out.one
          go_loopw [11] (fun i wr => ∃ k : Nat, i = .int .i64 k ∧ K ≤ k ∧ k ≤ n ∧ One W wr p g n z k) (fun i _ => n - (intOf i).toNat)
          case atStart => exact ⟨K, rfl, Nat.le_refl _, hK, O9.out⟩
          case round =>
            obtain ⟨q, rfl, hq1, hq2, hI⟩ := hrel
            have HI10 := Lib.hid hI
            clear hI
            by_cases hlq : q < n
            · go_wp2_with fail
              refine (next_any p g n z q _ (by omega) HI10.out.tp).mono ?_
              rintro e w11 ⟨rfl, ho, hs, ht⟩
              have O11 := Lib.hid (HI10.out.next ho ht)
              clear ho hs ht
              obtain ⟨b, off, rfl, hbW, hcz⟩ := HZ.out.at hlq
              have cz : w11.cell? ⟨b, off + q, none⟩ = some (.int .u64 (z q)) := ((O11.out.below).cell (p := ⟨b, off + q, none⟩) hbW).trans hcz
              have et : told n z q = z q := told_some hlq
              have hnq : ¬ n < q + 1 := by omega
              clear hcz
              go_wp2_with fail
              refine (short_any p g n z (q + 1) _ O11.out.tp).mono ?_
              rintro e w12 ⟨rfl, k12, rfl⟩
              go_wp2
              go_roundw
              case rel => exact ⟨q + 1, by go_num, by omega, by omega, O11.out.drewN _⟩
              case measure => simp [intOf]; omega
            · obtain rfl : n = q := by omega
              go_wp2_with fail
              refine (next_any p g n z n _ (by omega) HI10.out.tp).mono ?_
              rintro e w11 ⟨rfl, ho, hs, ht⟩
              have O11 := Lib.hid (HI10.out.next ho ht)
              clear ho hs ht
              go_wp2_with fail
              refine (short_any p g n z (n + 1) _ O11.out.tp).mono ?_
              rintro e w12 ⟨rfl, k12, rfl⟩
              go_wp2_with fail
              refine (used_any p g n z (n + 1) _ (O11.out.tp.drewN k12)).mono ?_
              rintro e w13 ⟨rfl, rfl⟩
              go_wp2
              go_ret
              exact ⟨rfl, below_drewN O11.out.below _⟩

theorem own_any (a : Option Addr) (n cap : Nat) (z : Nat → Int) (m : Int) (W : World) (hn : n * 8 ≤ 140737488351232) (hz : Nums .u64 W W.heap.size a n z) (hq : a = none → n = 0 ∧ cap = 0) :
    Calls Try.prog 4 #[.slice a n cap, .int .i64 m] W (Yes W) := by
  obtain ⟨t, ht⟩ : ∃ t, (if (n : Int) < m then (n : Int) else m) = t := ⟨_, rfl⟩
  obtain ⟨K, hK⟩ : ∃ K : Nat, (if 0 < t then t else 0) = (K : Int) := ⟨(if 0 < t then t else 0).toNat, by split <;> omega⟩
  refine own_walk a n cap z m t K W hn hz hq ht hK ?_
  split at ht <;> split at hK <;> omega
end Go.Proofs.Ytmdlankeflnpgaa
