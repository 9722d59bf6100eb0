/- Texts of ours put together: SortEvents. -/
import Derived.Test.YtdbjaaalngbpgaaGreatG26
import Derived.Test.YtdbjaaalngbpgaaGreatG52
import Derived.Test.YtdbjaaalngbpgaaGreatG55
import Derived.Test.YtdbjaaalngbpgaaGreatG8
/- Events, the program's and the document's: the looks of all pairs, in a new slice; of what was in memory nothing turns. No conditions. -/
namespace Go.Proofs.YtdbjaaalngbpgaaGreat
set_option maxRecDepth 100000
open Go.RowKit Go.ChangeShapes Go.WideShapes Go.ChangeAt

/-- The looks of pairs at a region, whatever its number. -/
def four4 (r : Int) (p : Pr) : List IEv := [(r, (p.1 : Int), false), (r, (p.2.1 : Int), false), (r, (p.1 : Int), true), (r, (p.2.1 : Int), true)]
def ilooks (r : Int) (ps : List Pr) : List IEv := ps.flatMap (four4 r)
theorem ilooks_len (r : Int) (ps : List Pr) : (ilooks r ps).length = ps.length * 4 := by
  induction ps with
  | nil => rfl
  | cons p ps ih => rw [ilooks, List.flatMap_cons, List.length_append, ← ilooks, ih]; simp [four4]; omega
theorem ilooks_snoc (r : Int) (ps : List Pr) (p : Pr) : ilooks r (ps ++ [p]) = ilooks r ps ++ four4 r p := by simp [ilooks]
theorem ilooks_nat (r : Nat) : ∀ ps : List Pr, ilooks (r : Int) ps = (looks r ps).map evI
  | [] => rfl
  | p :: ps => by
    rw [ilooks, List.flatMap_cons, ← ilooks, ilooks_nat r ps, looks, looks, List.flatMap_cons, List.map_append]; rfl
def v12 (r : Int) (q : Pr) : List Value := [.int .i64 r, .int .i64 (q.1 : Int), .bool false, .int .i64 r, .int .i64 (q.2.1 : Int), .bool false, .int .i64 r, .int .i64 (q.1 : Int), .bool true, .int .i64 r, .int .i64 (q.2.1 : Int), .bool true]
theorem v12_eq (r : Int) (q : Pr) : v12 r q = ievs (four4 r q) := rfl
theorem v12_one (r : Int) (q : Pr) : ∀ u ∈ v12 r q, u.oneCell' = true := by
  intro u hu
  have h : (v12 r q).all (·.oneCell') = true := by simp [v12, Value.oneCell']
  exact List.all_eq_true.1 h u hu
theorem v12_new (W : World) (t : TypeId) (r : Int) (q : Pr) {b : Nat} (hb : b = W.heap.size) : ∀ j u, (v12 r q)[j]? = some u → (W.alloc (.cells (v12 r q).toArray t)).cell? ((⟨b, 0, none⟩ : Addr).add j) = some u := by
  subst hb
  intro j u h
  have hb := Box.new W t (v12 r q).toArray
  have := hb.cell j
  rw [add_plain, Nat.zero_add, this, List.getElem?_toArray]
  exact h
theorem EvAt.next4 {w1 : World} {v : Value} {r : Int} {ps : List Pr} {q : Pr} {A : Option Addr} {cap : Nat} {t : TypeId} {wr wx w7 : World} (h : EvAt w1 v (ilooks r ps) wr) (hx : Below wr.heap.size wr wx)
    (ho : w7.ownsRow w1.heap.size 120 3 (.slice A ((ilooks r ps).length + 4) cap) ((ilooks r ps).length + 4) (ievs (ilooks r ps) ++ v12 r q)) (hg : (wx.alloc (.cells (v12 r q).toArray t)).grownBy w7 v.ownBlock) :
    EvAt w1 (.slice A ((ilooks r ps).length + 4) cap) (ilooks r (ps ++ [q])) w7 := by
  rw [ilooks_snoc]
  exact h.next (m := four4 r q) hx ho hg
theorem Prs.cells {w w' : World} {base : Nat} {A : Option Addr} {ps : List Pr} {g : Nat} (h : Prs w base A ps g) (hb : Below w.heap.size w w') {i : Nat} (hi : i < ps.length) :
    w'.cell? ⟨g, i * 3, none⟩ = some (.int .i64 (ps[i].1 : Nat)) ∧ w'.cell? ⟨g, i * 3 + 1, none⟩ = some (.int .i64 (ps[i].2.1 : Nat)) ∧ w'.cell? ⟨g, i * 3 + 2, none⟩ = some (.bool ps[i].2.2) :=
  have h' := h.below hb (Nat.le_refl _)
  ⟨h'.fst i hi, h'.snd i hi, h'.up i hi⟩
set_option maxRecDepth 100000 in
set_option maxHeartbeats 1000000 in
theorem events_any (r n : Int) (k : Nat) (ps : List Pr) (hN : Net n k ps) (w : World) : Calls Tryz.prog 65 #[.int .i64 r, .int .i64 n] w (EvPost w (ilooks r ps)) := by
  have hps := hN.len
  go_enter Tryz.func65, Tryz.ntmps65
  go_wp2_with (first
    | (go_at_call 93; refine (pairs_any n k ps hN _).mono ?_; rintro e w1 ⟨v, rfl, hown, hb⟩; obtain ⟨A, cap, g, rfl, hP⟩ := Prs.of hown; clear hown))
  have HB := Lib.hid hb
  have HP := Lib.hid hP
  clear hb hP
  go_loopw [5, 11] (fun v5 v wr => ∃ i : Nat, v = .int .i64 i ∧ i ≤ ps.length ∧ EvAt w1 v5 (ilooks r (ps.take i)) wr) (fun _ v _ => ps.length - (intOf v).toNat)
  case atStart => exact ⟨0, rfl, Nat.zero_le _, World.ownsRow_nil _ _ _ _, Below.refl _ _⟩
  case round =>
    obtain ⟨i, rfl, hi, hE⟩ := hrel
    have HE := Lib.hid hE
    clear hE
    by_cases hlt : i < ps.length
    · obtain rfl : A = some ⟨g, 0, none⟩ := HP.out.adr (by omega)
      obtain ⟨x0, x1, x2⟩ := HP.out.cells HE.out.below hlt
      have hts := take_snoc ps i hlt
      have hll : (ilooks r (ps.take i)).length + 4 ≤ 1000000 := by rw [ilooks_len, List.length_take]; omega
      have hsz := HE.out.below.size
      obtain ⟨q, hqe⟩ : ∃ q, ps[i] = q := ⟨_, rfl⟩
      rw [hqe] at x0 x1 x2 hts
      have HTS := Lib.hid hts
      clear hqe hts
      obtain ⟨ll, hle⟩ : ∃ l, (ilooks r (ps.take i)).length = l := ⟨_, rfl⟩
      rw [hle] at hll
      have HLE := Lib.hid hle
      clear hle
      have HOW : Hid (wr.ownsRow w1.heap.size 120 3 u5 ll (ievs (ilooks r (ps.take i)))) := by
        have := HE.out.own
        rwa [HLE.out] at this
      go_wp2_with (with_reducible refine wpList_append_where _ rfl (.tmp 15) (.tmp 32) 52 rfl w1.heap.size 120 (.agg #[.int .i64 0, .int .i64 0, .bool false]) 3 24 Tryz.underlying52 infoEvent rfl (by decide) u5 ll (ievs (ilooks r (ps.take i))) rfl ((HOW.out.alloc _).alloc _) ⟨wr.heap.size + 1, 0, none⟩ 4 4 (v12 r q) rfl rfl ?c0 (v12_one r q) ?c2 ?c3 ?c4 ?_)
      case c0 => exact v12_new (wr.alloc _) _ r q (by simp)
      case c2 => simp only [maxLen]; omega
      case c3 => omega
      case c4 => simp; omega
      intro A2 cap2 w7 hown hgr _
      have HN2 : Hid (EvAt w1 (.slice A2 (ll + 4) cap2) (ilooks r (ps.take (i + 1))) w7) := by
        show EvAt _ _ _ _
        rw [HTS.out, ← HLE.out]
        rw [← HLE.out] at hown
        exact HE.out.next4 ((Below.refl _ wr).alloc (Nat.le_refl _) _) hown hgr
      clear hown hgr
      go_wp2_with fail
      go_roundw
      case rel => exact ⟨i + 1, by go_num, by omega, HN2.out⟩
      case measure => simp [intOf]; omega
    · obtain rfl : i = ps.length := by omega
      have HD : Hid (EvPost w (ilooks r ps) (.returned u5) wr) := by
        have := HE.out
        rw [List.take_length] at this
        exact ev_done this HB.out
      clear HE
      go_wp2_with fail
      go_ret
      exact HD.out
end Go.Proofs.YtdbjaaalngbpgaaGreat
