/- Contracts of the document's own Word and Text: what each returns; of what was in memory nothing turns. Conditions: the word is one of 64 bits. -/
import Derived.Test.YtpnjeoilkaimmaaPack
import Derived.Test.YtpnjeoilkaimmaaAppend
namespace Go.Proofs.Ytpnjeoilkaimmaa
open Go.RowKit Go.ChangeShapes Go.WideShapes Go.ChangeAt

theorem refWord_long (s : ByteArray) (w : World) (h : 7 < s.size) (hm : s.size ≤ 9223372036854775807) :
    Calls Try.prog 24 #[.string s] w fun e w' => e = .returned (.tuple #[.int .u64 0, .int .i64 4]) ∧ w = w' := by
  go_enter Try.func24, Try.ntmps24
  go_wp2
  go_ret2
  exact ⟨rfl, rfl⟩

/-- What stands in the loop's number behind k bytes. -/
def wk (s : ByteArray) (k : Nat) : Int := ((pv (sb s) k + s.size * 72057594037927936 : Nat) : Int)
def pk8 (k : Nat) : Int := ((256 ^ k : Nat) : Int)
theorem wk_zero (s : ByteArray) : ((s.size : Int) * 72057594037927936) = wk s 0 := by unfold wk; simp [pv]
theorem wk_done (s : ByteArray) (h : s.size ≤ 7) : wk s s.size = (wd s : Int) := by
  unfold wk wd; rw [pv_sb s s.size (Nat.le_refl _) h]
theorem p_le (k m : Nat) (h : k ≤ m) : 256 ^ k ≤ 256 ^ m := Nat.pow_le_pow_right (by decide) h
theorem wk_step (s : ByteArray) (k : Nat) (h : s.size ≤ 7) (hk : k < s.size) :
    IntKind.u64.wrap (wk s k + IntKind.u64.wrap (IntKind.u64.wrap ((s[k]'hk).toNat : Int) * pk8 k)) = wk s (k + 1) := by
  rw [sb_at s k hk]
  have h1 := sb_lt s k
  have h3 := pv_lt (sb s) (k + 1) (fun i _ => sb_lt s i)
  have h4 := p_le (k + 1) 7 (by omega)
  have h5 : 256 ^ 7 = 72057594037927936 := rfl
  rw [h5] at h4
  have h6 : pv (sb s) (k + 1) = pv (sb s) k + sb s k * 256 ^ k := rfl
  have e : IntKind.u64.wrap (sb s k : Int) = (sb s k : Int) := by rw [IntKind.wrap_u64]; omega
  rw [e]
  unfold wk pk8
  rw [← Int.natCast_mul]
  have e2 : IntKind.u64.wrap ((sb s k * 256 ^ k : Nat) : Int) = ((sb s k * 256 ^ k : Nat) : Int) := by rw [IntKind.wrap_u64]; omega
  rw [e2, IntKind.wrap_u64, h6]
  omega
theorem pk8_step (k : Nat) (hk : k < 7) : IntKind.u64.wrap (pk8 k * 256) = pk8 (k + 1) := by
  have h4 := p_le (k + 1) 7 (by omega)
  have h5 : 256 ^ 7 = 72057594037927936 := rfl
  rw [h5] at h4
  have h6 : 256 ^ (k + 1) = 256 ^ k * 256 := Nat.pow_succ 256 k
  unfold pk8
  rw [IntKind.wrap_u64, h6]
  omega
def RefWord (w : World) (s : ByteArray) (e : Ending) (w' : World) : Prop := e = .returned (.tuple #[.int .u64 (wd s), .int .i64 0]) ∧ w = w'
theorem RefWord.mk {w : World} {s : ByteArray} {x : Int} (h : x = (wd s : Int)) : RefWord w s (.returned (.tuple #[.int .u64 x, .int .i64 0])) w := ⟨by rw [h], rfl⟩
set_option maxHeartbeats 1000000 in
theorem refWord_short (s : ByteArray) (w : World) (h : s.size ≤ 7) :
    Calls Try.prog 24 #[.string s] w (RefWord w s) := by
  have hd : decide (7 < (s.size : Int)) = false := by simp; omega
  go_enter Try.func24, Try.ntmps24
  go_wp2
  go_loop [4, 5, 6] (fun n u i => ∃ k : Nat, k ≤ s.size ∧ i = .int .i64 k ∧ n = .int .u64 (wk s k) ∧ u = .int .u64 (pk8 k)) (fun _ _ i => s.size - (intOf i).toNat)
  case atStart => exact ⟨0, Nat.zero_le _, rfl, by rw [← wk_zero s], rfl⟩
  case round =>
    obtain ⟨k, hk, rfl, rfl, rfl⟩ := hrel
    by_cases hlt : k < s.size
    · have HS := Lib.hid (wk_step s k h hlt)
      have HP := Lib.hid (pk8_step k (by omega))
      go_wp2
      go_round
      case rel => exact ⟨k + 1, by omega, by go_num, by rw [HS.out], by rw [HP.out]⟩
      case measure => simp [intOf]; omega
    · obtain rfl : k = s.size := by omega
      go_wp2
      go_ret2
      exact .mk (wk_done s h)

/-- The first k bytes of a word as the model's cells. -/
def bl (n k : Nat) : List Value := (List.range k).map fun j => .int .u8 (up (dg n) j)
theorem bl_len (n k : Nat) : (bl n k).length = k := by simp [bl]
theorem bl_at (n k j : Nat) (h : j < k) : (bl n k)[j]? = some (.int .u8 (up (dg n) j)) := by simp [bl, h]
theorem bl_snoc (n k : Nat) : bl n k ++ [.int .u8 (up (dg n) k)] = bl n (k + 1) := by
  unfold bl; rw [List.range_succ, List.map_append]; rfl
theorem new_byte (w : World) (v : Value) (t : TypeId) : ∀ j u, [v][j]? = some u → (w.alloc (.cells #[v] t)).cell? ((⟨w.heap.size, 0, none⟩ : Addr).add j) = some u := by
  intro j u hu
  have hj : j < 1 := (List.getElem?_eq_some_iff.1 hu).1
  obtain rfl : j = 0 := by omega
  rw [add_plain]
  simpa [go_sem] using hu
theorem infoByte : (Try.prog.info? 5).map (fun i => (i.zero, i.size, i.bytes)) = some (some (.int .u8 0), 1, 1) := by kernel_rfl
/-- The loop's row of bytes behind k of them. -/
def Row (w wr : World) (n k : Nat) (v : Value) : Prop := ∃ A cap, v = .slice A k cap ∧ wr.ownsRow w.heap.size 5 1 (.slice A k cap) k (bl n k) ∧ Below w.heap.size w wr
theorem Row.next {w wr w1 : World} {n k : Nat} {v : Value} {A : Option Addr} {cap : Nat} {A' : Option Addr} {cap' : Nat} {o : Obj} (hb : Below w.heap.size w wr)
    (h0 : wr.ownsRow w.heap.size 5 1 (.slice A k cap) k (bl n k)) (h : w1.ownsRow w.heap.size 5 1 (.slice A' (k + 1) cap') (k + 1) (bl n k ++ [.int .u8 ((n : Int) / 2 ^ (8 * k) % 256)]))
    (hg : (wr.alloc o).grownBy w1 (Value.slice A k cap).ownBlock) (hv : v = .slice A' (k + 1) cap') : Row w w1 n (k + 1) v := by
  rw [← up_dg, bl_snoc] at h
  refine ⟨A', cap', hv, h, ?_⟩
  have ho : Only nobody w w1 := ((Only.of_below hb).alloc _).grown hg (fun i hi => .inr (h0.lt i hi).1)
  exact ho.none
/-- What the row reads as, as a text. -/
theorem Row.text {w wr : World} {n : Nat} {A : Option Addr} {cap : Nat} (h : wr.ownsRow w.heap.size 5 1 (.slice A (mn n) cap) (mn n) (bl n (mn n))) :
    (convert 38 9 (.slice A (mn n) cap)).run Try.prog wr = .ok (.string (tx n)) wr := by
  rcases h.2 with ⟨h0, hz⟩ | ⟨g, cap', cur, h0, _, _⟩
  · injection h0 with hA _ _
    subst hA
    rw [run_convert_bytes_nil (P := Try.prog) wr 38 5 Try.underlying38 Try.underlying5 _ _ 9 Try.underlying9]
    unfold tx; rw [hz]; rfl
  · injection h0 with hA _ hc
    subst hA
    have := run_convert_bytes_arg (P := Try.prog) wr 38 5 Try.underlying38 Try.underlying5 g 0 (mn n) cap ((List.range (mn n)).map (up (dg n))) (by simp)
      (fun i hi => by
        rw [nums_at n i hi]
        have := h.cells (g := g) rfl i _ (bl_at n (mn n) i hi)
        rwa [add_plain] at this) 9 Try.underlying9
    rwa [tx_nums] at this

theorem refText_many (n : Nat) (w : World) (hn : n < 18446744073709551616) (h : 7 < mn n) :
    Calls Try.prog 34 #[.int .u64 n] w fun e w' => e = .returned (.tuple #[.string ByteArray.empty, .int .i64 3]) ∧ w = w' := by
  have hq : (n : Int) / 72057594037927936 = (mn n : Int) := by unfold mn; omega
  have hx : (mn n : Int) ≤ 255 := by have := mn_lt n hn; omega
  go_enter Try.func34, Try.ntmps34
  go_wp2
  go_ret2
  exact ⟨rfl, rfl⟩

/-- What the document's Text tells of a word that has few bytes. -/
def TextPost (w : World) (n : Nat) (e : Ending) (w' : World) : Prop := e = .returned (.tuple (if rt n then #[.string (tx n), .int .i64 0] else #[.string ByteArray.empty, .int .i64 3])) ∧ Below w.heap.size w w'
theorem TextPost.no {w w' : World} {n : Nat} (h : rt n = false) (hb : Below w.heap.size w w') : TextPost w n (.returned (.tuple #[.string ByteArray.empty, .int .i64 3])) w' := ⟨by rw [h]; rfl, hb⟩
theorem TextPost.yes {w w' : World} {n : Nat} (h : rt n = true) (hb : Below w.heap.size w w') : TextPost w n (.returned (.tuple #[.string (tx n), .int .i64 0])) w' := ⟨by rw [h]; rfl, hb⟩
set_option maxHeartbeats 1000000 in
theorem refText_few (n : Nat) (w : World) (h : mn n ≤ 7) :
    Calls Try.prog 34 #[.int .u64 n] w (TextPost w n) := by
  have hq : (n : Int) / 72057594037927936 = (mn n : Int) := by unfold mn; omega
  have hd : decide (7 < (mn n : Int)) = false := by simp; omega
  go_enter Try.func34, Try.ntmps34
  go_wp2
  go_loopw [5, 6] (fun b i wr => ∃ k : Nat, k ≤ mn n ∧ i = .int .i64 k ∧ Row w wr n k b) (fun _ i _ => mn n - (intOf i).toNat)
  case atStart => exact ⟨0, Nat.zero_le _, rfl, none, 0, rfl, ⟨rfl, .inl ⟨rfl, rfl⟩⟩, Below.refl _ _⟩
  case round =>
    obtain ⟨k, hk, rfl, A, cap, rfl, hown, hb⟩ := hrel
    have HO := Lib.hid hown
    have HB := Lib.hid hb
    clear hown hb
    by_cases hlt : k < mn n
    · go_wp2_with (with_reducible refine wpList_append_where _ rfl (.tmp 19) (.tmp 25) 38 rfl w.heap.size 5 (.int .u8 0) 1 1 Try.underlying38 infoByte rfl (by decide) (.slice A k cap) k (bl n k) rfl (HO.out.alloc _) ⟨wr.heap.size, 0, none⟩ 1 1 [.int .u8 ((n : Int) / 2 ^ (8 * k) % 256)] rfl rfl ?c1 ?c2 ?c3 ?c4 ?c5 ?_)
      case c1 => exact new_byte _ _ _
      case c2 => intro u hu; simp at hu; subst hu; rfl
      case c3 => unfold maxLen; omega
      case c4 => omega
      case c5 => have := HB.out.size; simp; omega
      intro A' cap' w1 hown hg _
      have HN := Lib.hid (Row.next HB.out HO.out hown hg rfl)
      clear hown hg HB HO
      go_wp2
      go_roundw
      case rel => exact ⟨k + 1, by omega, by go_num, HN.out⟩
      case measure => simp [intOf]; omega
    · obtain rfl : k = mn n := by omega
      have htx := Row.text HO.out
      have HX := Lib.hid hlt
      clear hlt
      go_wp2_with fail
      refine (refWord_short (tx n) _ (by rw [tx_size]; exact h)).mono ?_
      rintro e w' ⟨rfl, rfl⟩
      cases hr : rt n
      · have hv : ((wd (tx n) : Int) != (n : Int)) = true := by
          have : wd (tx n) ≠ n := fun e => by rw [(wd_tx_iff n h).1 e] at hr; cases hr
          simp; omega
        have HR := Lib.hid hr
        clear hr
        go_wp2
        go_ret2
        exact .no HR.out HB.out
      · rw [wd_tx n hr]
        have HR := Lib.hid hr
        clear hr
        go_wp2
        go_ret2
        exact .yes HR.out HB.out

theorem refText_any (n : Nat) (w : World) (hn : n < 18446744073709551616) : Calls Try.prog 34 #[.int .u64 n] w (TextPost w n) := by
  by_cases h : mn n ≤ 7
  · exact refText_few n w h
  · exact (refText_many n w hn (by omega)).mono fun e w' ⟨he, hw⟩ => he ▸ hw ▸ .no (rt_many (by omega)) (Below.refl _ _)
theorem text_any (n : Nat) (w : World) (hn : n < 18446744073709551616) : Calls Try.prog 17 #[.int .u64 n] w (TextPost w n) := by
  cases h : rt n
  · exact (text_not n w hn h).mono fun e w' ⟨he, hw⟩ => he ▸ .no h hw
  · exact (text_yes n w hn h).mono fun e w' ⟨he, hw⟩ => he ▸ .yes h hw
end Go.Proofs.Ytpnjeoilkaimmaa
