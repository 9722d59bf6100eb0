/- The document's answer on sorting: picking the least again and again. The words that it tells are in order and the same ones; of what was in memory nothing changes. -/
import Derived.Test.YtojdefaplekieaaProg
import Derived.Test.YtojdefaplekieaaCell
import Derived.Test.YtojdefaplekieaaAppend
import Derived.Test.YtojdefaplekieaaNetPairs
import Derived.BigQuiet
import Derived.Deep.QuietTactic
import Derived.StillTailTactics
namespace Go.Proofs.Ytojdefaplekieaa
open Go.RowKit Go.ChangeShapes Go.WideShapes Go.ChangeAt

theorem infoWord : (Try.prog.info? 38).map (fun i => (i.zero, i.size, i.bytes)) = some (some (.int .u64 0), 1, 8) := by kernel_rfl
def ints (l : List Int) : List Value := l.map (.int .u64)
theorem ints_len (l : List Int) : (ints l).length = l.length := by simp [ints]
theorem ints_append (a b : List Int) : ints (a ++ b) = ints a ++ ints b := by simp [ints]
/-- A list's word, by its place. -/
def lv (l : List Int) (j : Nat) : Int := l.getD j 0
theorem lv_mem {l : List Int} {j : Nat} (h : j < l.length) : lv l j ∈ l := by
  unfold lv; rw [List.getD_eq_getElem?_getD, List.getElem?_eq_getElem h]; exact List.getElem_mem h
theorem mem_lv {l : List Int} {v : Int} (h : v ∈ l) : ∃ j, j < l.length ∧ lv l j = v := by
  obtain ⟨j, hj, rfl⟩ := List.getElem_of_mem h
  exact ⟨j, hj, by unfold lv; rw [List.getD_eq_getElem?_getD, List.getElem?_eq_getElem hj]; rfl⟩
theorem split_at {l : List Int} {j : Nat} (h : j < l.length) : l = l.take j ++ lv l j :: l.drop (j + 1) := by
  have e : lv l j = l[j] := by unfold lv; rw [List.getD_eq_getElem?_getD, List.getElem?_eq_getElem h]; rfl
  rw [e, ← List.drop_eq_getElem_cons h, List.take_append_drop]
/-- Place p has the least of the first i words. -/
def Least (l : List Int) (i p : Nat) : Prop := p < l.length ∧ ∀ j, j < i → lv l p ≤ lv l j
theorem Least.keep {l : List Int} {i p : Nat} (h : Least l i p) (hi : ¬ lv l i < lv l p) : Least l (i + 1) p := ⟨h.1, fun j hj => by
  by_cases e : j = i
  · subst e; omega
  · exact h.2 j (by omega)⟩
theorem Least.take {l : List Int} {i p : Nat} (h : Least l i p) (hil : i < l.length) (hi : lv l i < lv l p) : Least l (i + 1) i := ⟨hil, fun j hj => by
  by_cases e : j = i
  · subst e; omega
  · have := h.2 j (by omega); omega⟩
/-- Between two picks. -/
structure SdAt (w : World) (X : List Int) (v3 v4 : Value) (Lf O : List Int) (wr : World) : Prop where
  left : wr.ownsRow w.heap.size 38 1 v3 Lf.length (ints Lf)
  out : wr.ownsRow w.heap.size 38 1 v4 O.length (ints O)
  ne : ∀ g, v3.ownBlock = some g → v4.ownBlock ≠ some g
  below : Below w.heap.size w wr
  perm : (O ++ Lf).Perm X
  srt : O.Pairwise (· ≤ ·)
  low : ∀ o ∈ O, ∀ x ∈ Lf, o ≤ x
theorem row_block {w w' : World} {base : Nat} {e : TypeId} {size : Nat} {v : Value} {n : Nat} {xs : List Value} (h : w.ownsRow base e size v n xs) (hb : ∀ g, v.ownBlock = some g → w'.heap[g]? = w.heap[g]?) : w'.ownsRow base e size v n xs := by
  refine ⟨h.1, ?_⟩
  rcases h.2 with h0 | ⟨g, cap, cur, rfl, h1, h2, h3⟩
  · exact .inl h0
  · exact .inr ⟨g, cap, cur, rfl, h1, (hb g rfl).trans h2, h3⟩
theorem own_lt {w : World} {base : Nat} {e : TypeId} {size : Nat} {v : Value} {n : Nat} {xs : List Value} (h : w.ownsRow base e size v n xs) {g : Nat} (hg : v.ownBlock = some g) : base ≤ g ∧ g < w.heap.size := by
  rcases h.2 with ⟨rfl, _⟩ | ⟨g', cap, cur, rfl, h1, h2, h3⟩
  · simp [Value.ownBlock] at hg
  · obtain rfl : g' = g := by simpa [Value.ownBlock] using hg
    exact ⟨h1, (Array.getElem?_eq_some_iff.1 h2).1⟩
theorem SdAt.drewN {w : World} {X : List Int} {v3 v4 : Value} {Lf O : List Int} {wr : World} (h : SdAt w X v3 v4 Lf O wr) (k : Nat) : SdAt w X v3 v4 Lf O (wr.drewN k) :=
  ⟨row_block h.left (fun _ _ => rfl), row_block h.out (fun _ _ => rfl), h.ne, below_drewN h.below k, h.perm, h.srt, h.low⟩
theorem SdAt.slice {w : World} {X : List Int} {v3 v4 : Value} {Lf O : List Int} {wr : World} (h : SdAt w X v3 v4 Lf O wr) (h0 : 0 < Lf.length) : ∃ g cap, v3 = .slice (some ⟨g, 0, none⟩) Lf.length cap ∧ Lf.length ≤ cap ∧ g < wr.heap.size ∧ w.heap.size ≤ g ∧ ∀ j, j < Lf.length → wr.cell? ⟨g, j, none⟩ = some (.int .u64 (lv Lf j)) := by
  have h' := h.left
  rcases h.left.2 with ⟨_, h1⟩ | ⟨g, cap, cur, e, hb, hg, hc, _⟩
  · omega
  · refine ⟨g, cap, e, hc, (Array.getElem?_eq_some_iff.1 hg).1, hb, fun j hj => ?_⟩
    have := h'.cells (g := g) (by rw [e]; rfl) j (.int .u64 (lv Lf j)) (by
      unfold ints lv; rw [List.getElem?_map, List.getD_eq_getElem?_getD, List.getElem?_eq_getElem hj]; rfl)
    rwa [add_plain, Nat.zero_add] at this
/-- One pick: what is told has one word more, what is left one less. -/
theorem SdAt.next {w : World} {X : List Int} {v3 v4 u3 u4 : Value} {Lf O : List Int} {wr w' : World} {p : Nat} (h : SdAt w X v3 v4 Lf O wr) (hp : Least Lf Lf.length p)
    (hl : w'.ownsRow w.heap.size 38 1 u3 (Lf.take p ++ Lf.drop (p + 1)).length (ints (Lf.take p ++ Lf.drop (p + 1)))) (ho : w'.ownsRow w.heap.size 38 1 u4 (O ++ [lv Lf p]).length (ints (O ++ [lv Lf p])))
    (hne : ∀ g, u3.ownBlock = some g → u4.ownBlock ≠ some g) (hb : Below w.heap.size w w') : SdAt w X u3 u4 (Lf.take p ++ Lf.drop (p + 1)) (O ++ [lv Lf p]) w' := by
  have hs := split_at hp.1
  have hsub : ∀ x ∈ Lf.take p ++ Lf.drop (p + 1), x ∈ Lf := fun x hx => by
    rcases List.mem_append.1 hx with h1 | h1
    · exact List.mem_of_mem_take h1
    · exact List.mem_of_mem_drop h1
  refine ⟨hl, ho, hne, hb, ?_, ?_, ?_⟩
  · refine List.Perm.trans ?_ h.perm
    rw [List.append_assoc]
    refine List.Perm.append_left O ?_
    conv => rhs; rw [hs]
    show (lv Lf p :: (Lf.take p ++ Lf.drop (p + 1))).Perm _
    exact List.perm_middle.symm
  · rw [List.pairwise_append]
    refine ⟨h.srt, by simp, fun a ha b hb => ?_⟩
    rw [List.mem_singleton.1 hb]
    exact h.low a ha _ (lv_mem hp.1)
  · intro o ho x hx
    rcases List.mem_append.1 ho with h1 | h1
    · exact h.low o h1 x (hsub x hx)
    · rw [List.mem_singleton.1 h1]
      obtain ⟨j, hj, rfl⟩ := mem_lv (hsub x hx)
      exact hp.2 j hj
def slen : Value → Nat
  | .slice _ n _ => n
  | _ => 0
/-- Where a slice begins that is cut behind place p. -/
theorem cut_at (g cp p : Nat) : ∃ o, (if cp = p + 1 then some (⟨g, 0, none⟩ : Addr) else some ⟨g, p + 1, none⟩) = some ⟨g, o, none⟩ ∧ (cp ≠ p + 1 → o = p + 1) := by
  by_cases e : cp = p + 1
  · exact ⟨0, by rw [if_pos e], fun h => absurd e h⟩
  · exact ⟨p + 1, by rw [if_neg e], fun _ => rfl⟩
theorem held_n {P : Program} {ops : Array Oper} {Q : Exit → Act → World → Prop} {id : Nat} {a : Act} {w : World} (k : Nat) (hk : ops.size = k) (hm : P.follows .mixedOrders = true)
    (h : wpAnyH P .any ops Q (fun _ => True) k (Array.replicate k false) a w.drew) : (Code.region id ops true).wp P Q a w := by
  subst hk
  exact wp_region_held_drew hm trivial (fun _ => h)
theorem own_empty (w : World) (base : Nat) (hb : base ≤ w.heap.size) : (w.alloc (.cells #[] 38)).ownsRow base 38 1 (.slice (some ⟨w.heap.size, 0, none⟩) 0 0) 0 (ints []) :=
  ⟨rfl, .inr ⟨w.heap.size, 0, #[], rfl, hb, heap_alloc_new w _, Nat.le_refl _, Nat.zero_le _, rfl, rfl⟩⟩
theorem cells_new1 (W : World) (t : TypeId) (a : Value) : ∀ j u, [a][j]? = some u → (W.alloc (.cells #[a] t)).cell? ((⟨W.heap.size, 0, none⟩ : Addr).add j) = some u := by
  intro j u h
  have hb := Box.new W t #[a]
  have := hb.cell j
  rw [add_plain, Nat.zero_add, this]
  simpa using h
theorem drew_again {w w' : World} (h : ∃ q, w' = w.drewN q) (k : Nat) : ∃ q, w'.drewN k = w.drewN q := by
  obtain ⟨q, rfl⟩ := h
  exact ⟨q + k, by simp [World.drewN, Nat.add_assoc]⟩
/-- The word is told; it is still among those that are left. -/
structure MdAt (w : World) (g cp : Nat) (u4 : Value) (Lf O : List Int) (x : Int) (w3 : World) : Prop where
  left : w3.ownsRow w.heap.size 38 1 (.slice (some ⟨g, 0, none⟩) Lf.length cp) Lf.length (ints Lf)
  out : w3.ownsRow w.heap.size 38 1 u4 (O ++ [x]).length (ints (O ++ [x]))
  below : Below w.heap.size w w3
theorem SdAt.mid {w : World} {X : List Int} {g cp cp2 : Nat} {u4 : Value} {Lf O : List Int} {x : Int} {wr w3 : World} {A2 : Option Addr} {t : TypeId} (h : SdAt w X (.slice (some ⟨g, 0, none⟩) Lf.length cp) u4 Lf O wr)
    (ho : w3.ownsRow w.heap.size 38 1 (.slice A2 (O.length + 1) cp2) (O.length + 1) (ints O ++ [.int .u64 x])) (hg : (wr.alloc (.cells #[.int .u64 x] t)).grownBy w3 u4.ownBlock) : MdAt w g cp (.slice A2 (O.length + 1) cp2) Lf O x w3 := by
  have hgl := (own_lt h.left (g := g) rfl).2
  refine ⟨row_block h.left (fun k hk => ?_), ?_, ?_⟩
  · obtain rfl : g = k := by simpa [Value.ownBlock] using hk
    exact (hg.block g (by simp; omega) (fun e => h.ne g rfl e.symm)).trans (Below.heap_alloc wr _ g hgl)
  · rw [ints_append, List.length_append]; exact ho
  · refine (h.below.alloc h.below.size _).grown hg (by have := h.below.size; simp; omega) (fun k e => (own_lt h.out e).1)
theorem own_drew {w : World} {base : Nat} {e : TypeId} {size : Nat} {v : Value} {n : Nat} {xs : List Value} (h : w.ownsRow base e size v n xs) : w.drew.ownsRow base e size v n xs := h
theorem ints_one (l : List Int) : ∀ u ∈ ints l, u.oneCell' = true := by
  intro u hu
  unfold ints at hu
  obtain ⟨x, _, rfl⟩ := List.mem_map.1 hu
  rfl
theorem MdAt.cell {w : World} {g cp : Nat} {u4 : Value} {Lf O : List Int} {x : Int} {w3 : World} (h : MdAt w g cp u4 Lf O x w3) (j : Nat) (u : Value) (hu : (ints Lf)[j]? = some u) : w3.cell? ⟨g, j, none⟩ = some u := by
  have := h.left.cells (g := g) rfl j u hu
  rwa [add_plain, Nat.zero_add] at this
theorem MdAt.news1 {w : World} {g cp : Nat} {u4 : Value} {Lf O : List Int} {x : Int} {w3 : World} {p : Nat} (h : MdAt w g cp u4 Lf O x w3) : ∀ j u, (ints (Lf.take p))[j]? = some u → (w3.alloc (.cells #[] 38)).drew.cell? ((⟨g, 0, none⟩ : Addr).add j) = some u := by
  intro j u hu
  have hu2 : (ints Lf)[j]? = some u := by
    unfold ints at hu ⊢
    rw [List.map_take, List.getElem?_take] at hu
    split at hu
    · exact hu
    · cases hu
  rw [add_plain, Nat.zero_add]
  exact (World.cell?_alloc_past _ _ _ (own_lt h.left (g := g) rfl).2).trans (h.cell j u hu2)
theorem MdAt.news2 {w : World} {g cp o2 p : Nat} {u4 : Value} {Lf O : List Int} {x : Int} {w3 w5 : World} (h : MdAt w g cp u4 Lf O x w3) (hcp : Lf.length ≤ cp) (ho : cp ≠ p + 1 → o2 = p + 1)
    (hg : (w3.alloc (.cells #[] 38)).drew.grownBy w5 (Value.slice (some ⟨w3.heap.size, 0, none⟩) 0 0).ownBlock) : ∀ j u, (ints (Lf.drop (p + 1)))[j]? = some u → w5.cell? ((⟨g, o2, none⟩ : Addr).add j) = some u := by
  intro j u hu
  have hgl := (own_lt h.left (g := g) rfl).2
  have hj : j < Lf.length - (p + 1) := by
    have := (List.getElem?_eq_some_iff.1 hu).1
    rwa [ints_len, List.length_drop] at this
  have e := ho (by omega)
  have hu2 : (ints Lf)[p + 1 + j]? = some u := by
    unfold ints at hu ⊢
    rw [List.map_drop, List.getElem?_drop] at hu
    exact hu
  rw [add_plain, e]
  have h5 : w5.heap[g]? = w3.heap[g]? := (hg.block g (by simp; omega) (fun e => by simp [Value.ownBlock] at e; omega)).trans (Below.heap_alloc w3 _ g hgl)
  exact (World.cell?_of_block (w := w3) h5).trans (h.cell _ u hu2)
theorem SdAt.done {w : World} {X : List Int} {g cp p cp3 cp4 : Nat} {u4 v4 : Value} {Lf O : List Int} {wr w3 w5 w6 : World} {A3 A4 : Option Addr} (h : SdAt w X (.slice (some ⟨g, 0, none⟩) Lf.length cp) v4 Lf O wr) (hp : Least Lf Lf.length p) (hm : MdAt w g cp u4 Lf O (lv Lf p) w3)
    (_ho3 : w5.ownsRow w.heap.size 38 1 (.slice A3 (0 + p) cp3) (0 + p) (ints [] ++ ints (Lf.take p))) (hg3 : (w3.alloc (.cells #[] 38)).drew.grownBy w5 (Value.slice (some ⟨w3.heap.size, 0, none⟩) 0 0).ownBlock)
    (hw3 : (Value.slice A3 (0 + p) cp3).ownBlock = (Value.slice (some ⟨w3.heap.size, 0, none⟩) 0 0).ownBlock ∨ (Value.slice A3 (0 + p) cp3).ownBlock = some (w3.alloc (.cells #[] 38)).drew.heap.size)
    (ho4 : w6.ownsRow w.heap.size 38 1 (.slice A4 (0 + p + (Lf.length - (p + 1))) cp4) (0 + p + (Lf.length - (p + 1))) (ints [] ++ ints (Lf.take p) ++ ints (Lf.drop (p + 1)))) (hg4 : w5.grownBy w6 (Value.slice A3 (0 + p) cp3).ownBlock)
    (hw4 : (Value.slice A4 (0 + p + (Lf.length - (p + 1))) cp4).ownBlock = (Value.slice A3 (0 + p) cp3).ownBlock ∨ (Value.slice A4 (0 + p + (Lf.length - (p + 1))) cp4).ownBlock = some w5.heap.size) :
    SdAt w X (.slice A4 (Lf.take p ++ Lf.drop (p + 1)).length cp4) u4 (Lf.take p ++ Lf.drop (p + 1)) (O ++ [lv Lf p]) w6 := by
  have hlen : (Lf.take p ++ Lf.drop (p + 1)).length = 0 + p + (Lf.length - (p + 1)) := by
    have := hp.1
    rw [List.length_append, List.length_take, List.length_drop]; omega
  have hs3 : w3.heap.size + 1 ≤ w5.heap.size := by have := hg3.size; simpa using this
  have hge3 : ∀ k, (Value.slice A3 (0 + p) cp3).ownBlock = some k → w3.heap.size ≤ k := fun k e => by
    rcases hw3 with e1 | e1
    · rw [e1] at e; simp [Value.ownBlock] at e; omega
    · rw [e1] at e; simp at e; omega
  have hge4 : ∀ k, (Value.slice A4 (0 + p + (Lf.length - (p + 1))) cp4).ownBlock = some k → w3.heap.size ≤ k := fun k e => by
    rcases hw4 with e1 | e1
    · rw [e1] at e; exact hge3 k e
    · rw [e1] at e; simp at e; omega
  have hb : Below w3.heap.size w3 w6 :=
    ((((Below.refl _ w3).alloc (Nat.le_refl _) _).drew).grown hg3 (by simp) (fun k e => by simp [Value.ownBlock] at e; omega)).grown hg4 (by omega) (fun k e => hge3 k e)
  refine h.next hp ?_ (row_block hm.out (fun k hk => hb.block k (own_lt hm.out hk).2)) ?_ (hm.below.trans (hb.mono hm.below.size))
  · rw [hlen, ints_append]; exact ho4
  · intro k e e2
    rw [hlen] at e
    have h1 := hge4 k e
    have h2 := (own_lt hm.out e2).2
    omega
theorem own_nums {w : World} {base : Nat} {v : Value} {O : List Int} {f : Nat → Int} (h : w.ownsRow base 38 1 v O.length (ints O)) (h0 : 0 < O.length) (hf : ∀ j, j < O.length → lv O j = f j) :
    ∃ g c, v = .slice (some ⟨g, 0, none⟩) O.length c ∧ g < w.heap.size ∧ Nums .u64 w w.heap.size (some ⟨g, 0, none⟩) O.length f := by
  have h' := h
  rcases h.2 with ⟨_, h1⟩ | ⟨g, c, cur, rfl, _, hg, _⟩
  · omega
  · have hl := (Array.getElem?_eq_some_iff.1 hg).1
    refine ⟨g, c, rfl, hl, fun _ => ⟨g, 0, rfl, hl, fun j hj => ?_⟩⟩
    have := h'.cells (g := g) rfl j (.int .u64 (lv O j)) (by
      unfold ints lv; rw [List.getElem?_map, List.getD_eq_getElem?_getD, List.getElem?_eq_getElem hj]; rfl)
    rw [add_plain, hf j hj] at this
    exact this
set_option linter.unusedSimpArgs false in
set_option maxRecDepth 100000 in
set_option maxHeartbeats 1000000 in
theorem sorted_any (b off n cap : Nat) (z : Nat → Int) (w : World) (hn : 0 < n) (hn2 : n ≤ 1024) (hc : ∀ j, j < n → w.cell? ⟨b, off + j, none⟩ = some (.int .u64 (z j))) :
    Calls Try.prog 19 #[.slice (some ⟨b, off, none⟩) n cap] w fun e w' => ∃ v O, e = .returned v ∧ w'.ownsRow w.heap.size 38 1 v O.length (ints O) ∧ O.Perm (lst n z) ∧ O.Pairwise (· ≤ ·) ∧ Below w.heap.size w w' := by
  go_enter Try.func19, Try.ntmps19
  have hnew : ∀ j u, (ints (lst n z))[j]? = some u → (w.alloc (.cells #[] 38)).cell? ((⟨b, off, none⟩ : Addr).add j) = some u := by
    intro j u hu
    have hj : j < n := by
      have := (List.getElem?_eq_some_iff.1 hu).1; simpa [ints, lst] using this
    rw [add_plain, World.cell?_alloc_past _ _ _ (World.block_lt_of_cell? w ⟨b, off + j, none⟩ (hc j hj)), hc j hj]
    simpa [ints, lst, hj] using hu
  go_wp2_with (with_reducible refine wpList_append_fresh _ rfl (.tmp 7) (.tmp 8) 22 rfl 38 (.int .u64 0) 1 8 Try.underlying22 infoWord rfl ⟨w.heap.size, 0, none⟩ rfl ⟨b, off, none⟩ n cap (ints (lst n z)) rfl ?c1 hnew ?c2 ?c3 ?c4 ?_)
  case c1 => simp [ints, lst]
  case c2 => simp only [maxLen]; omega
  case c3 => omega
  case c4 => intro h; omega
  intro c w1 ho hg
  have hb1 : Below w.heap.size w w1 := ((Below.refl _ w).alloc (Nat.le_refl _) _).grown hg (by simp) (fun k e => by cases e)
  have h0 : ∃ A cap, (Value.slice (some ⟨w.heap.size + 1, 0, none⟩) n c) = .slice A (lst n z).length cap ∧ SdAt w (lst n z) (.slice A (lst n z).length cap) (.slice none 0 0) (lst n z) [] w1 := by
    refine ⟨_, c, by rw [lst_len], ?_, World.ownsRow_nil _ _ _ _, fun g _ => by simp [Value.ownBlock], hb1, List.Perm.refl _, by simp, by simp⟩
    rw [lst_len]
    rcases ho.2 with ⟨h, _⟩ | ⟨g, cap', cur, e, h1, h2⟩
    · cases h
    · exact ⟨ho.1, .inr ⟨g, cap', cur, e, by omega, h2⟩⟩
  have H0 := Lib.hid h0
  clear h0 hb1 ho hg hnew
  have hXn : (lst n z).length ≤ 1024 := by rw [lst_len]; exact hn2
  generalize hX : lst n z = X at *
  have HX := Lib.hid hX
  clear hX
  go_wp2_with fail
  go_loopw [3, 4] (fun v3 v4 wr => ∃ (Lf O : List Int) (A : Option Addr) (cp : Nat), v3 = .slice A Lf.length cp ∧ SdAt w X (.slice A Lf.length cp) v4 Lf O wr) (fun v3 _ _ => slen v3)
  case atStart =>
    obtain ⟨A, cp, e, h⟩ := H0.out
    exact ⟨X, [], A, cp, e, h⟩
  case round =>
    obtain ⟨Lf, O, A, cp, rfl, hS⟩ := hrel
    clear H0
    have hOL : O.length + Lf.length ≤ 1024 := by
      have := hS.perm.length_eq
      rw [List.length_append] at this; omega
    by_cases hm : 0 < Lf.length
    · obtain ⟨g, cp', e, hcp, hgl, hgw, hcell⟩ := hS.slice hm
      cases e
      have HS := Lib.hid hS
      have HC := Lib.hid hcell
      clear hS hcell
      obtain ⟨w2, h2⟩ : ∃ x, x = wr := ⟨_, rfl⟩
      subst h2
      go_wp2_with fail
      go_loopw [5, 6] (fun v5 v6 wr => ∃ i p : Nat, v6 = .int .i64 i ∧ v5 = .int .i64 p ∧ i ≤ Lf.length ∧ Least Lf i p ∧ ∃ q, wr = w2.drewN q) (fun _ v6 _ => Lf.length - (intOf v6).toNat)
      case atStart => exact ⟨0, 0, rfl, rfl, by omega, ⟨hm, fun j hj => by omega⟩, 0, rfl⟩
      case round =>
        obtain ⟨i, p, rfl, rfl, hi, hp, hq⟩ := hrel
        have HQ := Lib.hid hq
        have HLe := Lib.hid hp
        have hp1 := hp.1
        obtain ⟨q, hq⟩ := hq
        by_cases hlt : i < Lf.length
        · have ci : wr.cell? ⟨g, i, none⟩ = some (.int .u64 (lv Lf i)) := by rw [hq]; exact HC.out i hlt
          have cpp : wr.cell? ⟨g, p, none⟩ = some (.int .u64 (lv Lf p)) := by rw [hq]; exact HC.out p hp1
          clear hq hp
          by_cases hless : lv Lf i < lv Lf p
          · go_wp2_with fail
            go_quiet (fail)
            go_wp2_with fail
            go_roundw
            case rel => exact ⟨i + 1, i, by go_num, rfl, by omega, HLe.out.take hlt hless, drew_again HQ.out nq⟩
            case measure => simp [intOf]; omega
          · go_wp2_with fail
            go_quiet (fail)
            go_wp2_with fail
            go_roundw
            case rel => exact ⟨i + 1, p, by go_num, rfl, by omega, HLe.out.keep (by omega), drew_again HQ.out nq⟩
            case measure => simp [intOf]; omega
        · obtain rfl : i = Lf.length := by omega
          have HSd : Hid (SdAt w X (.slice (some ⟨g, 0, none⟩) Lf.length cp) u4 Lf O wr) := Lib.hid (by rw [hq]; exact HS.out.drewN q)
          have cpp : wr.cell? ⟨g, p, none⟩ = some (.int .u64 (lv Lf p)) := by rw [hq]; exact HC.out p hp1
          have hwz := HSd.out.below.size
          clear hq hp HS HC
          go_wp2_with (with_reducible refine wpList_append_where _ rfl (.tmp 29) (.tmp 34) 22 rfl w.heap.size 38 (.int .u64 0) 1 8 Try.underlying22 infoWord rfl (by decide) u4 O.length (ints O) rfl (HSd.out.out.alloc _) ⟨wr.heap.size, 0, none⟩ 1 1 [.int .u64 (lv Lf p)] rfl rfl (cells_new1 _ _ _) ?c1 ?c2 ?c3 ?c4 ?_)
          case c1 => simp [Value.oneCell']
          case c2 => simp only [maxLen]; omega
          case c3 => omega
          case c4 => first | omega | (simp; omega)
          intro A2 cp2 w3 hown hgr hwh
          have HMd := Lib.hid (HSd.out.mid hown hgr)
          have hwz3 := HMd.out.below.size
          clear hown hgr hwh cpp
          obtain ⟨o2, ho2, ho3⟩ := cut_at g cp p
          have hpc : ¬ cp < p := by omega
          have hpl : ((0 : Int) ≤ (p : Int) + 1 ∧ (p : Int) + 1 ≤ (Lf.length : Int)) := by omega
          have hwp : IntKind.i64.wrap ((p : Int) + 1) = (p : Int) + 1 := by rw [IntKind.wrap_i64]; omega
          go_wp2_with fail
          refine held_n 11 rfl (by kernel_rfl) ?_
          simp only [Array.replicate_succ, Array.replicate_zero, List.push_toArray, List.nil_append, List.cons_append]
          refine wpAnyH_take (i := 1) (oi := ⟨some 37, _, _, _, _, _⟩) (v := .slice (some ⟨g, 0, none⟩) Lf.length cp) rfl (by kernel_rfl) (by kernel_rfl) (by kernel_rfl) (fun _ _ _ h => h) (Or.inl ⟨by rfl, fun w' _ => by go_simp⟩) trivial ?_
          simp only [Act.put, List.setIfInBounds_toArray, List.set_cons_zero, List.set_cons_succ]
          refine wpAnyH_take (i := 2) (oi := ⟨some 38, _, _, _, _, _⟩) (v := .int .i64 (p : Int)) rfl (by kernel_rfl) (by kernel_rfl) (by kernel_rfl) (fun _ _ _ h => h) (Or.inl ⟨by rfl, fun w' _ => by go_simp⟩) trivial ?_
          simp only [Act.put, List.setIfInBounds_toArray, List.set_cons_zero, List.set_cons_succ]
          refine wpAnyH_take (i := 3) (oi := ⟨some 39, _, _, _, _, _⟩) (v := .slice (some ⟨g, 0, none⟩) p cp) rfl (by kernel_rfl) (by kernel_rfl) (by kernel_rfl) (fun _ _ _ h => h) (Or.inl ⟨by rfl, fun w' _ => by go_simp⟩) trivial ?_
          simp only [Act.put, List.setIfInBounds_toArray, List.set_cons_zero, List.set_cons_succ]
          refine wpAnyH_take (i := 5) (oi := ⟨some 41, _, _, _, _, _⟩) (v := .slice (some ⟨g, 0, none⟩) Lf.length cp) rfl (by kernel_rfl) (by kernel_rfl) (by kernel_rfl) (fun _ _ _ h => h) (Or.inl ⟨by rfl, fun w' _ => by go_simp⟩) trivial ?_
          simp only [Act.put, List.setIfInBounds_toArray, List.set_cons_zero, List.set_cons_succ]
          refine wpAnyH_take (i := 6) (oi := ⟨some 42, _, _, _, _, _⟩) (v := .int .i64 (p : Int)) rfl (by kernel_rfl) (by kernel_rfl) (by kernel_rfl) (fun _ _ _ h => h) (Or.inl ⟨by rfl, fun w' _ => by go_simp⟩) trivial ?_
          simp only [Act.put, List.setIfInBounds_toArray, List.set_cons_zero, List.set_cons_succ]
          refine wpAnyH_take (i := 7) (oi := ⟨some 43, _, _, _, _, _⟩) (v := .int .i64 ((p : Int) + 1)) rfl (by kernel_rfl) (by kernel_rfl) (by kernel_rfl) (fun _ _ _ h => h) (Or.inl ⟨by rfl, fun w' _ => by go_simp⟩) trivial ?_
          simp only [Act.put, List.setIfInBounds_toArray, List.set_cons_zero, List.set_cons_succ]
          refine wpAnyH_take (i := 8) (oi := ⟨some 44, _, _, _, _, _⟩) (v := .slice (some ⟨g, o2, none⟩) (Lf.length - (p + 1)) (cp - (p + 1))) rfl (by kernel_rfl) (by kernel_rfl) (by kernel_rfl) (fun _ _ _ h => h) (Or.inl ⟨by rfl, fun w' _ => by go_simp⟩) trivial ?_
          simp only [Act.put, List.setIfInBounds_toArray, List.set_cons_zero, List.set_cons_succ]
          refine one_ready 0 rfl (by kernel_rfl) (fun K hK => ?_)
          go_simp
          refine hK.out _ _ trivial (fun _ => ?_)
          clear hK K
          simp only [Act.put, List.setIfInBounds_toArray, List.set_cons_zero, List.set_cons_succ]
          refine one_ready 4 rfl (by kernel_rfl) (fun K hK => ?_)
          refine step_append_where rfl (.tmp 36) (.tmp 39) 22 rfl w.heap.size 38 (.int .u64 0) 1 8 Try.underlying22 infoWord rfl (by decide) (.slice (some ⟨w3.heap.size, 0, none⟩) 0 0) 0 (ints []) rfl (own_drew (own_empty w3 w.heap.size hwz3)) ⟨g, 0, none⟩ p cp (ints (Lf.take p)) rfl (by rw [ints_len, List.length_take]; omega) HMd.out.news1 (ints_one _) (by simp only [maxLen]; omega) (by omega) (by simp; omega) ?_
          intro A3 cp3 w5 hown3 hgr3 hwh3
          refine hK.out _ _ trivial (fun _ => ?_)
          clear hK K
          simp only [Act.put, List.setIfInBounds_toArray, List.set_cons_zero, List.set_cons_succ]
          have hnews2 := HMd.out.news2 (o2 := o2) (p := p) hcp ho3 hgr3
          refine one_ready 9 rfl (by kernel_rfl) (fun K hK => ?_)
          refine step_append_where rfl (.tmp 40) (.tmp 44) 22 rfl w.heap.size 38 (.int .u64 0) 1 8 Try.underlying22 infoWord rfl (by decide) (.slice A3 (0 + p) cp3) (0 + p) (ints [] ++ ints (Lf.take p)) rfl hown3 ⟨g, o2, none⟩ (Lf.length - (p + 1)) (cp - (p + 1)) (ints (Lf.drop (p + 1))) rfl (by rw [ints_len, List.length_drop]; omega) hnews2 (ints_one _) (by simp only [maxLen]; omega) (by omega) (by have := hgr3.size; simp at this; omega) ?_
          intro A4 cp4 w6 hown4 hgr4 hwh4
          have HEnd := Lib.hid (HSd.out.done HLe.out HMd.out hown3 hgr3 hwh3 hown4 hgr4 hwh4)
          clear hown3 hgr3 hwh3 hown4 hgr4 hwh4 hnews2
          refine hK.out _ _ trivial (fun _ => ?_)
          clear hK K
          simp only [Act.put, List.setIfInBounds_toArray, List.set_cons_zero, List.set_cons_succ]
          refine one_ready 10 rfl (by kernel_rfl) (fun K hK => ?_)
          go_simp
          refine hK.out _ _ trivial (fun _ => ?_)
          clear hK K
          refine wpAnyH_done (by kernel_rfl) ?_ _
          go_wp2_with fail
          go_roundw
          case rel => exact ⟨Lf.take p ++ Lf.drop (p + 1), O ++ [lv Lf p], A4, cp4, by rw [List.length_append, List.length_take, List.length_drop, show min p Lf.length = p by omega], HEnd.out⟩
          case measure => simp only [slen]; omega
    · have hL0 : Lf = [] := List.eq_nil_of_length_eq_zero (by omega)
      have HO := Lib.hid hS.out
      have HP : Hid (O.Perm X) := Lib.hid (by have := hS.perm; rwa [hL0, List.append_nil] at this)
      have HQ := Lib.hid hS.srt
      have HB := Lib.hid hS.below
      clear hS
      go_wp2_with fail
      go_ret
      exact ⟨_, O, rfl, HO.out, by rw [HX.out]; exact HP.out, HQ.out, HB.out⟩
end Go.Proofs.Ytojdefaplekieaa
