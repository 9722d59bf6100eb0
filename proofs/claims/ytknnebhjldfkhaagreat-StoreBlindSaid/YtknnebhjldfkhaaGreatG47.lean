import Derived.Sort.CutIn
import Derived.Test.YtknnebhjldfkhaaGreatG46
import Derived.Test.YtknnebhjldfkhaaGreatG14
import Derived.Test.YtknnebhjldfkhaaGreatG41
import Derived.Test.YtknnebhjldfkhaaGreatG40
import Derived.Test.YtknnebhjldfkhaaGreatG38
import Derived.Test.YtknnebhjldfkhaaGreatG39
namespace Go.Proofs.YtknnebhjldfkhaaGreat
set_option maxRecDepth 100000
open Go.RowKit Go.Shelf Go.ChangeShapes Go.WideShapes Go.ChangeAt
attribute [local go_sem] Oper.semAt_some

theorem lt_mul {n k i j : Nat} (hi : i < k) (hj : j < n) : n * i + j < n * k := by
 have h1 := Nat.mul_le_mul_left n (show i + 1 ≤ k by omega)
 have h2 : n * (i + 1) = n * i + n := Nat.mul_succ n i
 omega
set_option maxRecDepth 100000 in
set_option linter.unusedSimpArgs false in
set_option maxHeartbeats 8000000 in
theorem sevents_right {c : SC} (hc : c.Ok) {k g cap : Nat} {lf : Nat → Nat} (w : World) (hk : k ≤ 16) (hcap : c.n * k ≤ cap) (hg : g < w.heap.size) (hz : ∀ j, j < c.n * k → w.cell? ⟨g, j, none⟩ = some (.int .i64 ((lf j : Nat) : Int))) (hlf : ∀ j, j < c.n * k → lf j < c.N (c.n - 1 - j % c.n)) :
  Calls Tryz.prog 60 #[.int .i64 (c.f : Int), .agg #[.int .i64 c.B, .int .i64 (c.S : Int), .int .i64 (c.T : Int), .int .i64 (c.n : Int)], .slice (some ⟨g, 0, none⟩) (c.n * k) cap] w (EvPost w ((evAll c (fun j => ((lf j : Nat) : Int)) k).map evI)) := by
 have hn1 := hc.n1
 have hn4 := hc.n4
 have hb10 := hc.b10
 have hf50 := hc.f50
 have hcf := hc.conf 0 (by omega)
 have HR : Hid (∀ W, Calls Tryz.prog 58 #[.agg #[.int .i64 c.B, .int .i64 (c.S : Int), .int .i64 (c.T : Int), .int .i64 (c.n : Int)]] W fun e w' => e = .returned (.bool true) ∧ Below W.heap.size W w') := Lib.hid fun W => by
  have h := sright_in c.b (c.S : Int) (c.T : Int) c.n W hb10 hn1 hn4
  rw [show isSt (c.S : Int) (c.T : Int) = true from (isSt_iff _ _).2 ⟨⟨by have := hcf.s1; omega, by have := hcf.s8; omega⟩, by have := hcf.t1; omega, by have := hcf.t64; omega⟩] at h
  unfold scA at h
  rwa [hc.bB] at h
 have HHv : Hid (∀ W, Below w.heap.size w W → Calls Tryz.prog 125 #[.agg #[.int .i64 c.B, .int .i64 (c.S : Int), .int .i64 (c.T : Int), .int .i64 (c.n : Int)], .slice (some ⟨g, 0, none⟩) (c.n * k) cap] W fun e w' => e = .returned (.bool true) ∧ Below W.heap.size W w') := Lib.hid fun W hb => by
  have hNk : c.n * k ≤ 4 * 16 := Nat.mul_le_mul hn4 hk
  have h := leaves_there (S := (c.S : Int)) (T := (c.T : Int)) (cap := cap) (lf := lf) W hb10 hn1 hn4 (by omega) (fun _ => ⟨g, 0, rfl, Nat.lt_of_lt_of_le hg hb.size, fun j hj => by rw [Nat.zero_add]; exact (World.cell?_of_block (hb.block g hg)).trans (hz j hj)⟩) hlf
  unfold scA at h
  rwa [hc.bB] at h
 have HTp : Hid (∀ W, Calls Tryz.prog 127 #[.agg #[.int .i64 (c.f : Int), .int .i64 c.B, .int .i64 (c.S : Int), .int .i64 (c.T : Int), .int .i64 (c.n : Int)]] W fun e w' => e = .returned (.int .i64 (c.f : Int)) ∧ Below W.heap.size W w') := Lib.hid fun W => (plan_top _ _ _ _ _ W).mono fun e w' h => ⟨h.1, by rw [h.2]; exact (Below.refl _ W).alloc (Nat.le_refl _) _⟩
 obtain ⟨N, hN⟩ : ∃ N, c.N (c.n - 1) = N := ⟨_, rfl⟩
 have hN1024 : N ≤ 1024 := by rw [← hN]; exact (SC.N_le hc _).2
 have hN0 : 0 < N := by rw [← hN]; exact (SC.N_le hc _).1
 have HTc : Hid (∀ W, Calls Tryz.prog 123 #[.agg #[.int .i64 c.B, .int .i64 (c.S : Int), .int .i64 (c.T : Int), .int .i64 (c.n : Int)]] W fun e w' => e = .returned (.int .i64 (N : Int)) ∧ Below W.heap.size W w') := Lib.hid fun W => by
  have h := topcells_any c.b (c.S : Int) (c.T : Int) c.n W hb10 hn1 (by omega)
  unfold scA at h
  rw [hc.bB] at h
  rw [← hN]
  exact h
 obtain ⟨rl, hrl⟩ : ∃ rl, ireads (c.f : Int) N = rl := ⟨_, rfl⟩
 obtain ⟨wl, hwl⟩ : ∃ wl, iwrites (c.f : Int) N = wl := ⟨_, rfl⟩
 have hrn : rl.length = N := by rw [← hrl, ireads_len]
 have hwn : wl.length = N * 2 := by rw [← hwl, iwrites_len]
 have HRd : Hid (∀ W, Calls Tryz.prog 126 #[.int .i64 (c.f : Int), .int .i64 (N : Int)] W (EvPosF W rl)) := Lib.hid (fun W => by
  have h := sc_reads_any (c.f : Int) N (by omega) W
  rw [hrl] at h
  exact h.mono fun e w' h => h.f (fun e => by rw [e] at hrn; simp at hrn; omega))
 have HWr : Hid (∀ W, Calls Tryz.prog 128 #[.int .i64 (c.f : Int), .int .i64 (N : Int)] W (EvPosF W wl)) := Lib.hid (fun W => by
  have h := sc_writes_any (c.f : Int) N (by omega) W
  rw [hwl] at h
  exact h.mono fun e w' h => h.f (fun e => by rw [e] at hwn; simp at hwn; omega))
 have HRg : Hid (∀ (W : World) {x : Nat}, x < c.n → Calls Tryz.prog 129 #[.agg #[.int .i64 (c.f : Int), .int .i64 c.B, .int .i64 (c.S : Int), .int .i64 (c.T : Int), .int .i64 (c.n : Int)], .int .i64 (x : Int)] W fun e w' => e = .returned (.int .i64 ((c.r x : Nat) : Int)) ∧ Below W.heap.size W w') := Lib.hid fun W x hx => (plan_region c.f x c.B (c.S : Int) (c.T : Int) (c.n : Int) W (by omega) (by omega)).mono fun e w' h => ⟨h.1, by rw [h.2]; exact (Below.refl _ W).alloc (Nat.le_refl _) _⟩
 have HCf : Hid (∀ (W : World) {x : Nat}, x < c.n → Calls Tryz.prog 124 #[.agg #[.int .i64 c.B, .int .i64 (c.S : Int), .int .i64 (c.T : Int), .int .i64 (c.n : Int)], .int .i64 (x : Int)] W fun e w' => e = .returned (.agg #[.int .i64 ((c.N x : Nat) : Int), .int .i64 (c.S : Int), .int .i64 (c.T : Int)]) ∧ Below W.heap.size W w') := Lib.hid fun W x hx => by
  have h := lcfg_any c.b (c.S : Int) (c.T : Int) c.n x W hb10 (by omega)
  unfold scA at h
  rw [hc.bB] at h
  exact h
 have hrn2 : rl.length ≤ 1024 := by omega
 have hwn2 : wl.length ≤ 2048 := by omega
 clear hrn hwn
 have HLe : Hid (∀ (W : World) {x : Nat} (y : Nat), x < c.n → Calls Tryz.prog 23 #[.int .i64 ((c.r x : Nat) : Int), .agg #[.int .i64 ((c.N x : Nat) : Int), .int .i64 (c.S : Int), .int .i64 (c.T : Int)], .int .i64 ((y : Nat) : Int)] W (EvPosF W (evX c x y))) := Lib.hid fun W x y hx => levents_any hc y hx W
 have HAl : Hid (∀ i, (((evAll c (fun j => ((lf j : Nat) : Int)) i).map evI).length ≤ 250000 * i)) := Lib.hid fun i => by rw [List.length_map]; exact evAll_len hc _ i
 have HLx : Hid (∀ x y, x < c.n → (evX c x y).length ≤ 60000) := Lib.hid fun x y hx => evX_len hc hx
 have HPl : Hid (∀ i (l : List (Lvl c.n)), (evP c lf i (l.map lvl)).length ≤ 60000 * l.length) := Lib.hid fun i l => evP_len hc lf i l
 have HPd : Hid (∀ i, i < k → evP c lf i (downL c.n) = (evLev c (fun j => ((lf j : Nat) : Int)) i c.n).map evI) := Lib.hid fun i hi => evP_down lf i (fun j hj => by
  have h := hlf (c.n * i + j) (lt_mul hi hj)
  rwa [Nat.mul_add_mod, Nat.mod_eq_of_lt hj] at h)
 have HTI : Hid ((topEv c).map evI = rl ++ wl) := Lib.hid (by rw [← hrl, ← hwl, ← hN]; exact topI c)
 have HZ : Hid (∀ W, Below w.heap.size w W → ∀ j, j < c.n * k → W.cell? ⟨g, j, none⟩ = some (.int .i64 ((lf j : Nat) : Int))) := Lib.hid fun W hb j hj => (World.cell?_of_block (hb.block g hg)).trans (hz j hj)
 have HLF := Lib.hid hlf
 have hNk : c.n * k ≤ 4 * 16 := Nat.mul_le_mul hn4 hk
 obtain ⟨NK, hNK⟩ : ∃ NK, c.n * k = NK := ⟨_, rfl⟩
 have hmod : (NK : Int).tmod (c.n : Int) = 0 := by
  rw [← hNK, Int.tmod_eq_emod_of_nonneg (by omega), Int.natCast_mul, Int.mul_emod_right]
 have HNK := Lib.hid hNK
 rw [hNK] at hcap hNk HHv
 rw [hNK]
 clear hN hcf hlf hz hNK hrl hwl
 have hcn0 : ¬ (c.n : Int) = 0 := by omega
 have hcn0' : ¬ c.n = 0 := by omega
 obtain ⟨cb, hcb⟩ : ∃ b, w.heap.size = b := ⟨_, rfl⟩
 obtain ⟨lb, hlb⟩ : ∃ b, cb + 1 = b := ⟨_, rfl⟩
 obtain ⟨w2, hw2⟩ : ∃ w2, (w.alloc (.cells #[.int .i64 c.B, .int .i64 (c.S : Int), .int .i64 (c.T : Int), .int .i64 (c.n : Int)] 79)).alloc (.cells #[.slice (some ⟨g, 0, none⟩) NK cap] 39) = w2 := ⟨_, rfl⟩
 have hx1 : Box w2 cb 79 #[.int .i64 c.B, .int .i64 (c.S : Int), .int .i64 (c.T : Int), .int .i64 (c.n : Int)] := by rw [← hw2, ← hcb]; exact (Box.new w _ _).alloc _
 have hx2 : Box w2 lb 39 #[.slice (some ⟨g, 0, none⟩) NK cap] := by
  have q := Box.new (w.alloc (.cells #[.int .i64 c.B, .int .i64 (c.S : Int), .int .i64 (c.T : Int), .int .i64 (c.n : Int)] 79)) 39 #[.slice (some ⟨g, 0, none⟩) NK cap]
  rw [World.size_alloc, hcb, hlb, hw2] at q
  exact q
 have hb2 : Below w.heap.size w w2 := by rw [← hw2]; exact ((Below.refl _ w).alloc (Nat.le_refl _) _).alloc (by simp) _
 have HW2 := Lib.hid hw2
 have HCb := Lib.hid hcb
 have HLb := Lib.hid hlb
 have k0 := hx1.cell 0
 have k1 := hx1.cell 1
 have k2 := hx1.cell 2
 have k3 := hx1.cell 3
 simp at k0 k1 k2 k3
 clear hw2 hcb hlb
 refine (callsIn_wide (n := 9)).1 ?_
 refine callsIn_of_wp_marks Tryz.func60 rfl trivial ?_ rfl
 simp only [Tryz.ntmps60, List.size_toArray, List.length_cons, List.length_nil, Nat.reduceAdd, Nat.reduceSub, qA0, qB0, qC0, List.append_toArray, List.nil_append, List.cons_append]
 refine calm_wp ?_
 gi_upto_region 1 with fail
 simp only [HCb.out]
 try simp only [HLb.out]
 rw [HW2.out]
 gi_upto_region 3 with (refine ⟨trivial, ?_⟩; gi_at_call 58; refine (callsIn_wide.2 (HR.out _)).mono ?_; rintro e w3 ⟨rfl, hb3⟩)
 have hx1 := hx1.of (hb3.block _ hx1.lt)
 have hx2 := hx2.of (hb3.block _ hx2.lt)
 have hb3 := hb2.trans (hb3.mono hb2.size)
 clear k0 k1 k2 k3 hb2 HR
 have k0 := hx1.cell 0
 have k1 := hx1.cell 1
 have k2 := hx1.cell 2
 have k3 := hx1.cell 3
 simp at k0 k1 k2 k3
 gi_upto_region 4 with fail
 obtain ⟨pb, hpb⟩ : ∃ b, w3.heap.size = b := ⟨_, rfl⟩
 obtain ⟨w4, hw4⟩ : ∃ x, w3.alloc (.cells #[.int .i64 (c.f : Int), .int .i64 c.B, .int .i64 (c.S : Int), .int .i64 (c.T : Int), .int .i64 (c.n : Int)] 166) = x := ⟨_, rfl⟩
 have hx3 : Box w4 pb 166 #[.int .i64 (c.f : Int), .int .i64 c.B, .int .i64 (c.S : Int), .int .i64 (c.T : Int), .int .i64 (c.n : Int)] := by rw [← hw4, ← hpb]; exact Box.new w3 _ _
 have hx1 : Box w4 cb 79 #[.int .i64 c.B, .int .i64 (c.S : Int), .int .i64 (c.T : Int), .int .i64 (c.n : Int)] := by rw [← hw4]; exact hx1.alloc _
 have hx2 : Box w4 lb 39 #[.slice (some ⟨g, 0, none⟩) NK cap] := by rw [← hw4]; exact hx2.alloc _
 have hb4 : Below w.heap.size w w4 := by rw [← hw4]; exact hb3.alloc hb3.size _
 rw [hpb, hw4]
 clear hpb hw4 hb3 k0 k1 k2 k3
 refine wide_held (S := fun u => Box u cb 79 #[.int .i64 c.B, .int .i64 (c.S : Int), .int .i64 (c.T : Int), .int .i64 (c.n : Int)] ∧ Box u lb 39 #[.slice (some ⟨g, 0, none⟩) NK cap]) 11 rfl (by kernel_rfl) (by rintro ⟨_, _, h⟩; exact h) ⟨hx1.drewN 1, hx2.drewN 1⟩ (fun hHeld => ?_)
 simp only [qA0, qB0, qC0, List.nil_append, List.cons_append]
 have hb5 := hb4.drew
 have hx3 := hx3.drewN 1
 have hx3 : Box w4.drew pb 166 #[.int .i64 (c.f : Int), .int .i64 c.B, .int .i64 (c.S : Int), .int .i64 (c.T : Int), .int .i64 (c.n : Int)] := hx3
 clear hx1 hx2 hb4
 generalize World.drew _ = w5 at *
 refine tk1 0 16 (.slice (some ⟨g, 0, none⟩) NK cap) rfl (Or.inl ⟨by rfl, fun w' hw => by (have y := hw.2.cell 0; go_simp)⟩) hHeld ?_
 try simp only [Act.put, sA0, sB0, sC0]
 refine tk1 1 17 (.slice (some ⟨g, 0, none⟩) NK cap) rfl (Or.inl ⟨by rfl, fun w' hw => by (have y := hw.2.cell 0; go_simp)⟩) hHeld ?_
 try simp only [Act.put, sA0, sB0, sC0]
 refine tk1 2 18 (.int .i64 (NK : Int)) rfl (Or.inl ⟨by rfl, fun w' hw => by go_simp⟩) hHeld ?_
 try simp only [Act.put, sA0, sB0, sC0]
 refine tk1 3 19 (.slice (some ⟨g, 0, none⟩) NK cap) rfl (Or.inl ⟨by rfl, fun w' hw => by (have y := hw.2.cell 0; go_simp)⟩) hHeld ?_
 try simp only [Act.put, sA0, sB0, sC0]
 refine tk1 4 20 (.int .i64 (NK : Int)) rfl (Or.inl ⟨by rfl, fun w' hw => by go_simp⟩) hHeld ?_
 try simp only [Act.put, sA0, sB0, sC0]
 refine tk1 5 21 (.pointer (some ⟨cb, 3, none⟩)) rfl (Or.inl ⟨by rfl, fun w' hw => by go_simp⟩) hHeld ?_
 try simp only [Act.put, sA0, sB0, sC0]
 refine tk1 6 22 (.int .i64 (c.n : Int)) rfl (Or.inl ⟨by rfl, fun w' hw => by (have y := hw.1.cell 3; go_simp)⟩) hHeld ?_
 try simp only [Act.put, sA0, sB0, sC0]
 refine tk1 7 23 (.int .i64 0) rfl (Or.inl ⟨by rfl, fun w' hw => by (go_simp; first | done | omega | (rw [IntKind.wrap_i64]; omega) | (intro h; omega))⟩) hHeld ?_
 try simp only [Act.put, sA0, sB0, sC0]
 refine tk1 8 24 (.int .i64 (NK : Int)) rfl (Or.inl ⟨by rfl, fun w' hw => by (go_simp; first | done | omega | (rw [IntKind.wrap_i64]; omega) | (intro h; omega))⟩) hHeld ?_
 try simp only [Act.put, sA0, sB0, sC0]
 refine tk1 9 25 (.slice (some ⟨g, 0, none⟩) NK cap) rfl (Or.inl ⟨by rfl, fun w' hw => by (go_simp; first | done | omega | (rw [IntKind.wrap_i64]; omega) | (intro h; omega))⟩) hHeld ?_
 try simp only [Act.put, sA0, sB0, sC0]
 refine one_ready 10 (o := ⟨none, _, _, _, _, _⟩) rfl (by kernel_rfl) (fun K9 hK => ?_)
 have q0 := hHeld.2.cell 0
 have q1 := hHeld.2.frozen 0
 simp at q0
 go_simp
 have hlo : w.heap.size ≤ lb := by have := HCb.out; have := HLb.out; omega
 have hx2 : Box (w5.setCell ⟨lb, 0, none⟩ (.slice (some ⟨g, 0, none⟩) NK cap)) lb 39 #[.slice (some ⟨g, 0, none⟩) NK cap] := by have := hHeld.2.put 0 (.slice (some ⟨g, 0, none⟩) NK cap); simpa using this
 have hx1 : Box (w5.setCell ⟨lb, 0, none⟩ (.slice (some ⟨g, 0, none⟩) NK cap)) cb 79 #[.int .i64 c.B, .int .i64 (c.S : Int), .int .i64 (c.T : Int), .int .i64 (c.n : Int)] := hHeld.1.far (a := ⟨lb, 0, none⟩) (hHeld.1.ne hHeld.2 (by decide)) _
 have hx3 : Box (w5.setCell ⟨lb, 0, none⟩ (.slice (some ⟨g, 0, none⟩) NK cap)) pb 166 #[.int .i64 (c.f : Int), .int .i64 c.B, .int .i64 (c.S : Int), .int .i64 (c.T : Int), .int .i64 (c.n : Int)] := hx3.far (a := ⟨lb, 0, none⟩) (hx3.ne hHeld.2 (by decide)) _
 have hb6 : Below w.heap.size w (w5.setCell ⟨lb, 0, none⟩ (.slice (some ⟨g, 0, none⟩) NK cap)) := hb5.setCell (p := ⟨lb, 0, none⟩) hlo _
 refine hK.out _ _ ⟨hx1, hx2⟩ (fun hHeld => ?_)
 clear hK K9 q0 q1 hHeld hb5
 generalize World.setCell _ _ _ = w6 at *
 refine wpAnyH_done (by kernel_rfl) ?_ _
 have y0 := hx3.cell 0
 have y1 := hx3.cell 1
 have y2 := hx3.cell 2
 have y3 := hx3.cell 3
 have y4 := hx3.cell 4
 have z0 := hx2.cell 0
 simp at y0 y1 y2 y3 y4 z0
 gi_upto_region 7 with (refine ⟨trivial, ?_⟩; gi_at_call 125; refine (callsIn_wide.2 (HHv.out _ hb6)).mono ?_; rintro e w7 ⟨rfl, hb7⟩)
 have hx3 := hx3.of (hb7.block _ hx3.lt)
 have hx2 := hx2.of (hb7.block _ hx2.lt)
 have hb7 := hb6.trans (hb7.mono hb6.size)
 clear hb6 hx1 y0 y1 y2 y3 y4 z0 HHv
 obtain ⟨eb, heb⟩ : ∃ b, w7.heap.size = b := ⟨_, rfl⟩
 obtain ⟨w8, hw8⟩ : ∃ x, w7.alloc (.cells #[.slice none 0 0] 52) = x := ⟨_, rfl⟩
 have hE : Sv w c lb pb eb (.slice (some ⟨g, 0, none⟩) NK cap) (.slice none 0 0) [] [] w8 := by
  have hb8 : Below w.heap.size w w8 := by rw [← hw8]; exact hb7.alloc hb7.size _
  exact ⟨by rw [← hw8]; exact hx3.alloc _, by rw [← hw8]; exact hx2.alloc _, by rw [← hw8, ← heb]; exact Box.new w7 _ _, (EvAt.nil w).keep hb8 (fun g e => by cases e), (fun D hD => by cases hD), hlo, by rw [← heb]; exact hb7.size⟩
 have HW8 := Lib.hid hw8
 have HEb := Lib.hid heb
 clear hw8 heb hb7 hx2 hx3
 gi_wp2_with fail
 try rw [HEb.out]
 try rw [HW8.out]
 clear HW8 HEb
 rename_i K1 hK1
 refine wpIn_loop (fun a' W => ∃ (i : Nat) (ds : List Nat) (u9 u31 u32 u33 u34 u35 u36 u37 u38 u39 u40 u41 u42 u43 u44 u45 u46 u47 u48 u49 u50 u51 u52 u53 u54 u55 u56 u57 u58 u59 u60 u61 u62 u63 u64 u65 u66 u67 u68 : Value), a' = { tmps := #[.int .i64 (c.f : Int), .agg #[.int .i64 c.B, .int .i64 (c.S : Int), .int .i64 (c.T : Int), .int .i64 (c.n : Int)], .slice (some ⟨g, 0, none⟩) NK cap, undef, .pointer (some ⟨cb, 0, none⟩), .pointer (some ⟨lb, 0, none⟩), .slice none 0 0, .pointer (some ⟨pb, 0, none⟩), .pointer (some ⟨eb, 0, none⟩), u9, .agg #[.int .i64 c.B, .int .i64 (c.S : Int), .int .i64 (c.T : Int), .int .i64 (c.n : Int)], .bool true, .bool false, .int .i64 (c.f : Int), .agg #[.int .i64 c.B, .int .i64 (c.S : Int), .int .i64 (c.T : Int), .int .i64 (c.n : Int)], .agg #[.int .i64 (c.f : Int), .int .i64 c.B, .int .i64 (c.S : Int), .int .i64 (c.T : Int), .int .i64 (c.n : Int)], .slice (some ⟨g, 0, none⟩) NK cap, .slice (some ⟨g, 0, none⟩) NK cap, .int .i64 (NK : Int), .slice (some ⟨g, 0, none⟩) NK cap, .int .i64 (NK : Int), .pointer (some ⟨cb, 3, none⟩), .int .i64 (c.n : Int), .int .i64 0, .int .i64 (NK : Int), .slice (some ⟨g, 0, none⟩) NK cap, .pointer (some ⟨pb, 1, none⟩), .agg #[.int .i64 c.B, .int .i64 (c.S : Int), .int .i64 (c.T : Int), .int .i64 (c.n : Int)], .slice (some ⟨g, 0, none⟩) NK cap, .bool true, .bool false, u31, u32, u33, u34, u35, u36, u37, u38, u39, u40, u41, u42, u43, u44, u45, u46, u47, u48, u49, u50, u51, u52, u53, u54, u55, u56, u57, u58, u59, u60, u61, u62, u63, u64, u65, u66, u67, u68, undef], defers := ds.map mkD } ∧ i ≤ k ∧ ds.Nodup ∧ SvI w c lb pb eb g (c.n * i) (NK - c.n * i) (cap - c.n * i) ((evAll c (fun j => ((lf j : Nat) : Int)) i).map evI) ds W) (fun _ W => lenAt lb W) ⟨0, [], undef, undef, undef, undef, undef, undef, undef, undef, undef, undef, undef, undef, undef, undef, undef, undef, undef, undef, undef, undef, undef, undef, undef, undef, undef, undef, undef, undef, undef, undef, undef, undef, undef, undef, undef, undef, undef, undef, undef, rfl, Nat.zero_le _, List.nodup_nil, by rw [Nat.mul_zero]; exact ⟨_, _, fun _ => rfl, hE⟩⟩ ?_
 clear hE
 rintro a' W ⟨i, ds, u9, u31, u32, u33, u34, u35, u36, u37, u38, u39, u40, u41, u42, u43, u44, u45, u46, u47, u48, u49, u50, u51, u52, u53, u54, u55, u56, u57, u58, u59, u60, u61, u62, u63, u64, u65, u66, u67, u68, rfl, hi, hnd, A, v, hA, hE⟩
 have hlen := hE.len
 obtain ⟨m, hm⟩ : ∃ m, NK - c.n * i = m := ⟨_, rfl⟩
 obtain ⟨cp, hcp⟩ : ∃ cp, cap - c.n * i = cp := ⟨_, rfl⟩
 obtain ⟨li, hli⟩ : ∃ li, (evAll c (fun j => ((lf j : Nat) : Int)) i).map evI = li := ⟨_, rfl⟩
 rw [hm, hcp, hli] at hE
 rw [hm] at hA
 rw [hm] at hlen
 have hll : li.length ≤ 250000 * i := by rw [← hli]; exact HAl.out i
 have x0 := hE.lvs.cell 0
 simp at x0
 have HLi := Lib.hid hli
 have HM := Lib.hid hm
 have HCp := Lib.hid hcp
 have HLn := Lib.hid hlen
 clear hli hm hcp hlen
 by_cases hik : i < k
 ·have hmn : c.n ≤ m := by
   have h1 := HNK.out
   have h2 := HM.out
   have h3 := lt_mul (n := c.n) hik (show c.n - 1 < c.n by omega)
   omega
  have h0 : (0 : Int) < (m : Int) := by omega
  have h0' : 0 < m := by omega
  obtain rfl := hA h0'
  clear hA
  gi_upto_region 9 with fail
  rename_i K2 hK2
  have REST9 : ∀ (wz : World) (xs0 v0 : Value) (l0 : List IEv), l0 = li ++ rl → Sv w c lb pb eb (.slice (some ⟨g, c.n * i, none⟩) m cp) v0 l0 ds wz → K2 { tmps := #[.int .i64 (c.f : Int), .agg #[.int .i64 c.B, .int .i64 (c.S : Int), .int .i64 (c.T : Int), .int .i64 (c.n : Int)], .slice (some ⟨g, 0, none⟩) NK cap, undef, .pointer (some ⟨cb, 0, none⟩), .pointer (some ⟨lb, 0, none⟩), .slice none 0 0, .pointer (some ⟨pb, 0, none⟩), .pointer (some ⟨eb, 0, none⟩), u9, .agg #[.int .i64 c.B, .int .i64 (c.S : Int), .int .i64 (c.T : Int), .int .i64 (c.n : Int)], .bool true, .bool false, .int .i64 (c.f : Int), .agg #[.int .i64 c.B, .int .i64 (c.S : Int), .int .i64 (c.T : Int), .int .i64 (c.n : Int)], .agg #[.int .i64 (c.f : Int), .int .i64 c.B, .int .i64 (c.S : Int), .int .i64 (c.T : Int), .int .i64 (c.n : Int)], .slice (some ⟨g, 0, none⟩) NK cap, .slice (some ⟨g, 0, none⟩) NK cap, .int .i64 (NK : Int), .slice (some ⟨g, 0, none⟩) NK cap, .int .i64 (NK : Int), .pointer (some ⟨cb, 3, none⟩), .int .i64 (c.n : Int), .int .i64 0, .int .i64 (NK : Int), .slice (some ⟨g, 0, none⟩) NK cap, .pointer (some ⟨pb, 1, none⟩), .agg #[.int .i64 c.B, .int .i64 (c.S : Int), .int .i64 (c.T : Int), .int .i64 (c.n : Int)], .slice (some ⟨g, 0, none⟩) NK cap, .bool true, .bool false, .slice (some ⟨g, c.n * i, none⟩) m cp, .int .i64 (m : Int), .bool true, v, .agg #[.int .i64 (c.f : Int), .int .i64 c.B, .int .i64 (c.S : Int), .int .i64 (c.T : Int), .int .i64 (c.n : Int)], .int .i64 (c.f : Int), .pointer (some ⟨pb, 1, none⟩), .agg #[.int .i64 c.B, .int .i64 (c.S : Int), .int .i64 (c.T : Int), .int .i64 (c.n : Int)], .int .i64 (N : Int), xs0, v0, u42, u43, u44, u45, u46, u47, u48, u49, u50, u51, u52, u53, u54, u55, u56, u57, u58, u59, u60, u61, u62, u63, u64, u65, u66, u67, u68, undef], defers := ds.map mkD } wz := by
   clear hE x0
   intro wz xs0 v0 l0 hl0 hE
   refine hK2 _ _ ?_
   dsimp only
   have hll0 : l0.length ≤ li.length + 1024 := by rw [hl0, List.length_append]; omega
   have HL0 := Lib.hid hl0
   clear hl0
   have x0 := hE.lvs.cell 0
   gi_upto_region 10 with fail
   rename_i K3 hK3
   have REST10 : ∀ (wz : World) (xs1 v1 : Value) (l1 : List IEv), l1 = l0 ++ wl → Sv w c lb pb eb (.slice (some ⟨g, c.n * i, none⟩) m cp) v1 l1 ds wz → K3 { tmps := #[.int .i64 (c.f : Int), .agg #[.int .i64 c.B, .int .i64 (c.S : Int), .int .i64 (c.T : Int), .int .i64 (c.n : Int)], .slice (some ⟨g, 0, none⟩) NK cap, undef, .pointer (some ⟨cb, 0, none⟩), .pointer (some ⟨lb, 0, none⟩), .slice none 0 0, .pointer (some ⟨pb, 0, none⟩), .pointer (some ⟨eb, 0, none⟩), u9, .agg #[.int .i64 c.B, .int .i64 (c.S : Int), .int .i64 (c.T : Int), .int .i64 (c.n : Int)], .bool true, .bool false, .int .i64 (c.f : Int), .agg #[.int .i64 c.B, .int .i64 (c.S : Int), .int .i64 (c.T : Int), .int .i64 (c.n : Int)], .agg #[.int .i64 (c.f : Int), .int .i64 c.B, .int .i64 (c.S : Int), .int .i64 (c.T : Int), .int .i64 (c.n : Int)], .slice (some ⟨g, 0, none⟩) NK cap, .slice (some ⟨g, 0, none⟩) NK cap, .int .i64 (NK : Int), .slice (some ⟨g, 0, none⟩) NK cap, .int .i64 (NK : Int), .pointer (some ⟨cb, 3, none⟩), .int .i64 (c.n : Int), .int .i64 0, .int .i64 (NK : Int), .slice (some ⟨g, 0, none⟩) NK cap, .pointer (some ⟨pb, 1, none⟩), .agg #[.int .i64 c.B, .int .i64 (c.S : Int), .int .i64 (c.T : Int), .int .i64 (c.n : Int)], .slice (some ⟨g, 0, none⟩) NK cap, .bool true, .bool false, .slice (some ⟨g, c.n * i, none⟩) m cp, .int .i64 (m : Int), .bool true, v, .agg #[.int .i64 (c.f : Int), .int .i64 c.B, .int .i64 (c.S : Int), .int .i64 (c.T : Int), .int .i64 (c.n : Int)], .int .i64 (c.f : Int), .pointer (some ⟨pb, 1, none⟩), .agg #[.int .i64 c.B, .int .i64 (c.S : Int), .int .i64 (c.T : Int), .int .i64 (c.n : Int)], .int .i64 (N : Int), xs0, v0, v0, .agg #[.int .i64 (c.f : Int), .int .i64 c.B, .int .i64 (c.S : Int), .int .i64 (c.T : Int), .int .i64 (c.n : Int)], .int .i64 (c.f : Int), .pointer (some ⟨pb, 1, none⟩), .agg #[.int .i64 c.B, .int .i64 (c.S : Int), .int .i64 (c.T : Int), .int .i64 (c.n : Int)], .int .i64 (N : Int), xs1, v1, u50, u51, u52, u53, u54, u55, u56, u57, u58, u59, u60, u61, u62, u63, u64, u65, u66, u67, u68, undef], defers := ds.map mkD } wz := by
    clear hE x0
    intro wz xs1 v1 l1 hl1 hE
    refine hK3 _ _ ?_
    dsimp only
    have hll1 : l1.length ≤ l0.length + 2048 := by rw [hl1, List.length_append]; omega
    have HL1 := Lib.hid hl1
    clear hl1
    have y0 := hE.pln.cell 0
    have y1 := hE.pln.cell 1
    have y2 := hE.pln.cell 2
    have y3 := hE.pln.cell 3
    have y4 := hE.pln.cell 4
    simp at y0 y1 y2 y3 y4
    gi_wp2_with (refine ⟨trivial, ?_⟩; gi_at_call 114; refine (callsIn_wide.2 (fromLast_any _ _)).mono ?_; rintro e w3' ⟨rfl, rfl⟩)
    obtain ⟨bc, hbc⟩ : ∃ x, wz.heap.size = x := ⟨_, rfl⟩
    obtain ⟨W0, hW0⟩ : ∃ x, wz.alloc (.cells #[.int .i64 c.B, .int .i64 (c.S : Int), .int .i64 (c.T : Int), .int .i64 (c.n : Int)] 79) = x := ⟨_, rfl⟩
    have bC : Box W0 bc 79 #[.int .i64 c.B, .int .i64 (c.S : Int), .int .i64 (c.T : Int), .int .i64 (c.n : Int)] := by rw [← hW0, ← hbc]; exact Box.new wz _ _
    have hE := hE.nob (show Only nobody wz W0 by rw [← hW0]; exact (Only.refl nobody wz).alloc _)
    have hds : ∀ D ∈ ds, D < W0.heap.size := fun D hD => (Array.getElem?_eq_some_iff.1 (hE.mks D hD).2).1
    have hwB : w.heap.size ≤ W0.heap.size := hE.row.below.size
    rw [hbc, hW0]
    clear hbc hW0 y0 y1 y2 y3 y4
    refine wpIn_rangeFunc_ownG rfl (by decide) (gf := 154) (lb := #[.pointer (some ⟨bc, 0, none⟩)]) rfl trivial (enters_of Tryz.func154 (by kernel_rfl) rfl)
     (last_stops _ bc c.n c.B (c.S : Int) (c.T : Int) (by omega) _ bC) (fun h k => KC.trans h k) KC.book (Below.refl _ _) (fun _ => rfl)
     (fun pre W => SvI w c lb pb eb g (c.n * i + pre.length) (m - pre.length) (cp - pre.length) (l1 ++ evP c lf i (pre.map lvl)) ds W)
     (fun _ _ _ => False)
     (fun pre X Y row hs hg hr => hs.nonc hwB hds (only_nonc hg hr))
     (fun _ _ _ _ _ hs _ _ => hs)
     ⟨_, v1, fun _ => rfl, by simpa [evP] using hE⟩
     (fun x => { tmps := #[.int .i64 (c.f : Int), .agg #[.int .i64 c.B, .int .i64 (c.S : Int), .int .i64 (c.T : Int), .int .i64 (c.n : Int)], .slice (some ⟨g, 0, none⟩) NK cap, undef, .pointer (some ⟨cb, 0, none⟩), .pointer (some ⟨lb, 0, none⟩), .slice none 0 0, .pointer (some ⟨pb, 0, none⟩), .pointer (some ⟨eb, 0, none⟩), .int .i64 (lvl x : Int), .agg #[.int .i64 c.B, .int .i64 (c.S : Int), .int .i64 (c.T : Int), .int .i64 (c.n : Int)], .bool true, .bool false, .int .i64 (c.f : Int), .agg #[.int .i64 c.B, .int .i64 (c.S : Int), .int .i64 (c.T : Int), .int .i64 (c.n : Int)], .agg #[.int .i64 (c.f : Int), .int .i64 c.B, .int .i64 (c.S : Int), .int .i64 (c.T : Int), .int .i64 (c.n : Int)], .slice (some ⟨g, 0, none⟩) NK cap, .slice (some ⟨g, 0, none⟩) NK cap, .int .i64 (NK : Int), .slice (some ⟨g, 0, none⟩) NK cap, .int .i64 (NK : Int), .pointer (some ⟨cb, 3, none⟩), .int .i64 (c.n : Int), .int .i64 0, .int .i64 (NK : Int), .slice (some ⟨g, 0, none⟩) NK cap, .pointer (some ⟨pb, 1, none⟩), .agg #[.int .i64 c.B, .int .i64 (c.S : Int), .int .i64 (c.T : Int), .int .i64 (c.n : Int)], .slice (some ⟨g, 0, none⟩) NK cap, .bool true, .bool false, .slice (some ⟨g, c.n * i, none⟩) m cp, .int .i64 (m : Int), .bool true, v, .agg #[.int .i64 (c.f : Int), .int .i64 c.B, .int .i64 (c.S : Int), .int .i64 (c.T : Int), .int .i64 (c.n : Int)], .int .i64 (c.f : Int), .pointer (some ⟨pb, 1, none⟩), .agg #[.int .i64 c.B, .int .i64 (c.S : Int), .int .i64 (c.T : Int), .int .i64 (c.n : Int)], .int .i64 (N : Int), xs0, v0, v0, .agg #[.int .i64 (c.f : Int), .int .i64 c.B, .int .i64 (c.S : Int), .int .i64 (c.T : Int), .int .i64 (c.n : Int)], .int .i64 (c.f : Int), .pointer (some ⟨pb, 1, none⟩), .agg #[.int .i64 c.B, .int .i64 (c.S : Int), .int .i64 (c.T : Int), .int .i64 (c.n : Int)], .int .i64 (N : Int), xs1, v1, .pointer (some ⟨pb, 1, none⟩), .agg #[.int .i64 c.B, .int .i64 (c.S : Int), .int .i64 (c.T : Int), .int .i64 (c.n : Int)], .func (.func 154) #[] #[.pointer (some ⟨bc, 0, none⟩)], .int .i64 (lvl x : Int), u54, u55, u56, u57, u58, u59, u60, u61, u62, u63, u64, u65, u66, u67, u68, undef], defers := [] })
     ?assign ?body ?done ?stop
    case assign =>
     intro l x W K hK
     dsimp only [encV]
     rw [zip_one]
     simp only [List.set_cons_zero, List.set_cons_succ]
     gi_wp2
     exact hK
    case body =>
     clear hE
     rintro l pre x W ⟨A, ve, hA, hE⟩ hlt
     obtain ⟨lx, hlx⟩ : ∃ lx, l1 ++ evP c lf i (pre.map lvl) = lx := ⟨_, rfl⟩
     rw [hlx] at hE
     have hlx := hlx.symm
     obtain ⟨j, hj⟩ : ∃ j, pre.length = j := ⟨_, rfl⟩
     have hx : lvl x < c.n := x.2
     have hsn := evP_snoc c lf i (pre.map lvl) (lvl x)
     have hpl := HPl.out i pre
     rw [List.length_map, hj] at hsn
     rw [hj] at hE hlt hpl
     obtain ⟨y, hy⟩ : ∃ y, lvl x = y := ⟨_, rfl⟩
     rw [hy] at hx hsn ⊢
     obtain ⟨z, hzz⟩ : ∃ z, c.n * i + j = z := ⟨_, rfl⟩
     have hzN : z < c.n * k := by rw [← hzz]; exact lt_mul hik hlt
     rw [hzz] at hsn
     have HZz : Hid (∀ W, Below w.heap.size w W → W.cell? ⟨g, z, none⟩ = some (.int .i64 ((lf z : Nat) : Int))) := Lib.hid fun W hb => HZ.out W hb z hzN
     obtain ⟨lv, hlv⟩ : ∃ lv, lf z = lv := ⟨_, rfl⟩
     rw [hlv] at HZz hsn
     obtain ⟨es, hes⟩ : ∃ es, evX c y lv = es := ⟨_, rfl⟩
     have hel : es.length ≤ 60000 := by rw [← hes]; exact HLx.out y lv hx
     have hlxl : lx.length ≤ 4600000 := by
      have h1 : lx.length = l1.length + (evP c lf i (pre.map lvl)).length := by rw [hlx, List.length_append]
      have h2 : 60000 * j ≤ 60000 * 4 := Nat.mul_le_mul_left _ (by omega)
      omega
     obtain ⟨m1, hm1⟩ : ∃ m1, m - j = m1 := ⟨_, rfl⟩
     obtain ⟨cp1, hcp1⟩ : ∃ cp1, cp - j = cp1 := ⟨_, rfl⟩
     have hmc : m ≤ cp := by
      have h1 := HM.out
      have h2 := HCp.out
      omega
     have h1m : 0 < m1 := by omega
     have h1c : m1 ≤ cp1 := by omega
     have h1i : (0 : Int) < (m1 : Int) := by omega
     rw [hm1, hcp1] at hE
     rw [hj, hzz, hm1] at hA
     obtain rfl := hA h1m
     clear hA
     have hO : Only (fun i => i = eb ∨ i = lb ∨ ve.ownBlock = some i) W W := Only.refl _ W
     have HE0 := Lib.hid hE
     have HLX := Lib.hid hlx
     have HSN := Lib.hid hsn
     have HES := Lib.hid hes
     have HZ2 := Lib.hid hzz
     have HM1 := Lib.hid hm1
     have HC1 := Lib.hid hcp1
     have HJ := Lib.hid hj
     have HY := Lib.hid hy
     have HLe1 : Hid (∀ W, Calls Tryz.prog 23 #[.int .i64 ((c.r y : Nat) : Int), .agg #[.int .i64 ((c.N y : Nat) : Int), .int .i64 (c.S : Int), .int .i64 (c.T : Int)], .int .i64 ((lv : Nat) : Int)] W (EvPosF W es)) := Lib.hid fun W => by rw [← hes]; exact HLe.out W lv hx
     clear hlx hsn hes hzz hm1 hcp1 hj hlv hy
     gi_upto_region 13 with fail
     rename_i K4 hK4
     have REST13 : ∀ (wz : World) (xs2 v2 : Value), Sv w c lb pb eb (.slice (some ⟨g, z, none⟩) m1 cp1) v2 (lx ++ es) ds wz → Only (fun i => i = eb ∨ i = lb ∨ ve.ownBlock = some i) W wz → K4 { tmps := #[.int .i64 (c.f : Int), .agg #[.int .i64 c.B, .int .i64 (c.S : Int), .int .i64 (c.T : Int), .int .i64 (c.n : Int)], .slice (some ⟨g, 0, none⟩) NK cap, undef, .pointer (some ⟨cb, 0, none⟩), .pointer (some ⟨lb, 0, none⟩), .slice none 0 0, .pointer (some ⟨pb, 0, none⟩), .pointer (some ⟨eb, 0, none⟩), .int .i64 (y : Int), .agg #[.int .i64 c.B, .int .i64 (c.S : Int), .int .i64 (c.T : Int), .int .i64 (c.n : Int)], .bool true, .bool false, .int .i64 (c.f : Int), .agg #[.int .i64 c.B, .int .i64 (c.S : Int), .int .i64 (c.T : Int), .int .i64 (c.n : Int)], .agg #[.int .i64 (c.f : Int), .int .i64 c.B, .int .i64 (c.S : Int), .int .i64 (c.T : Int), .int .i64 (c.n : Int)], .slice (some ⟨g, 0, none⟩) NK cap, .slice (some ⟨g, 0, none⟩) NK cap, .int .i64 (NK : Int), .slice (some ⟨g, 0, none⟩) NK cap, .int .i64 (NK : Int), .pointer (some ⟨cb, 3, none⟩), .int .i64 (c.n : Int), .int .i64 0, .int .i64 (NK : Int), .slice (some ⟨g, 0, none⟩) NK cap, .pointer (some ⟨pb, 1, none⟩), .agg #[.int .i64 c.B, .int .i64 (c.S : Int), .int .i64 (c.T : Int), .int .i64 (c.n : Int)], .slice (some ⟨g, 0, none⟩) NK cap, .bool true, .bool false, .slice (some ⟨g, c.n * i, none⟩) m cp, .int .i64 (m : Int), .bool true, v, .agg #[.int .i64 (c.f : Int), .int .i64 c.B, .int .i64 (c.S : Int), .int .i64 (c.T : Int), .int .i64 (c.n : Int)], .int .i64 (c.f : Int), .pointer (some ⟨pb, 1, none⟩), .agg #[.int .i64 c.B, .int .i64 (c.S : Int), .int .i64 (c.T : Int), .int .i64 (c.n : Int)], .int .i64 (N : Int), xs0, v0, v0, .agg #[.int .i64 (c.f : Int), .int .i64 c.B, .int .i64 (c.S : Int), .int .i64 (c.T : Int), .int .i64 (c.n : Int)], .int .i64 (c.f : Int), .pointer (some ⟨pb, 1, none⟩), .agg #[.int .i64 c.B, .int .i64 (c.S : Int), .int .i64 (c.T : Int), .int .i64 (c.n : Int)], .int .i64 (N : Int), xs1, v1, .pointer (some ⟨pb, 1, none⟩), .agg #[.int .i64 c.B, .int .i64 (c.S : Int), .int .i64 (c.T : Int), .int .i64 (c.n : Int)], .func (.func 154) #[] #[.pointer (some ⟨bc, 0, none⟩)], .int .i64 (y : Int), ve, .agg #[.int .i64 (c.f : Int), .int .i64 c.B, .int .i64 (c.S : Int), .int .i64 (c.T : Int), .int .i64 (c.n : Int)], .int .i64 (y : Int), .int .i64 ((c.r y : Nat) : Int), .pointer (some ⟨pb, 1, none⟩), .agg #[.int .i64 c.B, .int .i64 (c.S : Int), .int .i64 (c.T : Int), .int .i64 (c.n : Int)], .int .i64 (y : Int), .agg #[.int .i64 ((c.N y : Nat) : Int), .int .i64 (c.S : Int), .int .i64 (c.T : Int)], .slice (some ⟨g, z, none⟩) m1 cp1, .pointer (some ⟨g, z, none⟩), .int .i64 ((lv : Nat) : Int), xs2, v2, u67, u68, undef], defers := [] } wz := by
      clear hE hO
      intro wz xs2 v2 hE hO
      refine hK4 _ _ ?_
      dsimp only
      have x0 := hE.lvs.cell 0
      have f0 := hE.lvs.frozen 0
      simp at x0
      have hi1 : (1 : Int) ≤ (m1 : Int) := by omega
      have hi2 : (m1 : Int) ≤ (cp1 : Int) := by omega
      have hL : l1 ++ evP c lf i ((pre ++ [x]).map lvl) = lx ++ es := by rw [List.map_append, List.map_cons, List.map_nil, HY.out, HSN.out, HES.out, HLX.out, List.append_assoc]
      have hlj : (pre ++ [x]).length = j + 1 := by rw [List.length_append, HJ.out]; rfl
      have HFin : Hid (∀ (u : World) (A : Option Addr), (0 < m1 - 1 → A = some ⟨g, z + 1, none⟩) → Sv w c lb pb eb (.slice A (m1 - 1) (cp1 - 1)) v2 (lx ++ es) ds u → SvI w c lb pb eb g (c.n * i + (pre ++ [x]).length) (m - (pre ++ [x]).length) (cp - (pre ++ [x]).length) (l1 ++ evP c lf i ((pre ++ [x]).map lvl)) ds u) := Lib.hid fun u A h1 h2 => by
       rw [hL, hlj, show c.n * i + (j + 1) = z + 1 by have := HZ2.out; omega, show m - (j + 1) = m1 - 1 by have := HM1.out; omega, show cp - (j + 1) = cp1 - 1 by have := HC1.out; omega]
       exact ⟨A, v2, h1, h2⟩
      clear hL hlj
      by_cases hc1 : cp1 = 1
      ·gi_wp2
       have e1 : m1 = 1 := by omega
       have hC := hE.cut (.slice (some ⟨g, z, none⟩) (m1 - 1) 0)
       have hO2 := hO.setCell (p := ⟨lb, 0, none⟩) (.inl (.inr (.inl rfl))) (.slice (some ⟨g, z, none⟩) (m1 - 1) 0)
       have e2 : cp1 - 1 = 0 := by omega
       have hfin := HFin.out _ (some ⟨g, z, none⟩) (fun h => by omega) (by rw [e2]; exact hC)
       exact ⟨HE0.out.keeps hO2, fun hb => HE0.out.other hb (by decide) (by decide) (by decide) hO2, hfin⟩
      ·gi_wp2
       have hC := hE.cut (.slice (some ⟨g, z + 1, none⟩) (m1 - 1) (cp1 - 1))
       have hO2 := hO.setCell (p := ⟨lb, 0, none⟩) (.inl (.inr (.inl rfl))) (.slice (some ⟨g, z + 1, none⟩) (m1 - 1) (cp1 - 1))
       exact ⟨HE0.out.keeps hO2, fun hb => HE0.out.other hb (by decide) (by decide) (by decide) hO2, HFin.out _ _ (fun _ => rfl) hC⟩
     refine round_held (S := fun u => Box u pb 166 #[.int .i64 (c.f : Int), .int .i64 c.B, .int .i64 (c.S : Int), .int .i64 (c.T : Int), .int .i64 (c.n : Int)] ∧ Box u lb 39 #[.slice (some ⟨g, z, none⟩) m1 cp1] ∧ u.cell? ⟨g, z, none⟩ = some (.int .i64 ((lv : Nat) : Int))) 14 rfl (by kernel_rfl) (by kernel_rfl) (by rintro ⟨_, _, h⟩; exact h) ⟨hE.pln.drewN 1, hE.lvs.drewN 1, HZz.out _ hE.row.below.drew⟩ (fun hHeld => ?_)
     simp only [qA0, qB0, qC0, List.nil_append, List.cons_append]
     have hE := hE.nob ((Only.refl nobody _).drew)
     have hO := hO.then ((Only.refl nobody _).drew) (fun i h => absurd h (not_nobody i))
     generalize World.drew _ = wd3 at *
     refine tk1 1 55 (.agg #[.int .i64 (c.f : Int), .int .i64 c.B, .int .i64 (c.S : Int), .int .i64 (c.T : Int), .int .i64 (c.n : Int)]) rfl (Or.inl ⟨by rfl, fun w' hw => by (have y0 := hw.1.cell 0; have y1 := hw.1.cell 1; have y2 := hw.1.cell 2; have y3 := hw.1.cell 3; have y4 := hw.1.cell 4; go_simp)⟩) hHeld ?_
     try simp only [Act.put, sA0, sB0, sC0]
     refine tk1 2 56 (.int .i64 (y : Int)) rfl (Or.inl ⟨by rfl, fun w' hw => by go_simp⟩) hHeld ?_
     try simp only [Act.put, sA0, sB0, sC0]
     refine tk1 4 58 (.pointer (some ⟨pb, 1, none⟩)) rfl (Or.inl ⟨by rfl, fun w' hw => by go_simp⟩) hHeld ?_
     try simp only [Act.put, sA0, sB0, sC0]
     refine tk1 5 59 (.agg #[.int .i64 c.B, .int .i64 (c.S : Int), .int .i64 (c.T : Int), .int .i64 (c.n : Int)]) rfl (Or.inl ⟨by rfl, fun w' hw => by (have y0 := hw.1.cell 1; have y1 := hw.1.cell 2; have y2 := hw.1.cell 3; have y3 := hw.1.cell 4; simp at y0 y1 y2 y3; go_simp)⟩) hHeld ?_
     try simp only [Act.put, sA0, sB0, sC0]
     refine tk1 6 60 (.int .i64 (y : Int)) rfl (Or.inl ⟨by rfl, fun w' hw => by go_simp⟩) hHeld ?_
     try simp only [Act.put, sA0, sB0, sC0]
     refine tk1 8 62 (.slice (some ⟨g, z, none⟩) m1 cp1) rfl (Or.inl ⟨by rfl, fun w' hw => by (have y := hw.2.1.cell 0; go_simp)⟩) hHeld ?_
     try simp only [Act.put, sA0, sB0, sC0]
     refine tk1 9 63 (.pointer (some ⟨g, z, none⟩)) rfl (Or.inl ⟨by rfl, fun w' hw => by go_simp⟩) hHeld ?_
     try simp only [Act.put, sA0, sB0, sC0]
     refine tk1 10 64 (.int .i64 ((lv : Nat) : Int)) rfl (Or.inl ⟨by rfl, fun w' hw => by (have q := hw.2.2; go_simp)⟩) hHeld ?_
     try simp only [Act.put, sA0, sB0, sC0]
     refine wpAnyH_ready (rs := [0, 3]) (by kernel_rfl) (by simp) (AllReadyH.cons rfl (fun K hK => ?_) (AllReadyH.cons rfl (fun K hK => ?_) (AllReadyH.nil)))
     ·have c8 := hE.evs.cell 0
      simp at c8
      go_simp
      refine hK.out _ _ ⟨hE.pln, hE.lvs, HZz.out _ hE.row.below⟩ (fun hHeld => ?_)
      clear hK K c8
      try simp only [Act.put, sA0, sB0, sC0]
      refine one_ready 3 rfl (by kernel_rfl) (fun K hK => ?_)
      go_simp
      refine (HRg.out _ hx).mono ?_
      rintro e wy ⟨rfl, hb⟩
      have hE := hE.nob (Only.of_below hb)
      have hO := hO.then (Only.of_below (S := nobody) hb) (fun i h => absurd h (not_nobody i))
      refine hK.out _ _ ⟨hE.pln, hE.lvs, HZz.out _ hE.row.below⟩ (fun hHeld => ?_)
      clear hK K
      try simp only [Act.put, sA0, sB0, sC0]
      refine one_ready 7 rfl (by kernel_rfl) (fun K hK => ?_)
      go_simp
      refine (HCf.out _ hx).mono ?_
      rintro e wy ⟨rfl, hb⟩
      have hE := hE.nob (Only.of_below hb)
      have hO := hO.then (Only.of_below (S := nobody) hb) (fun i h => absurd h (not_nobody i))
      refine hK.out _ _ ⟨hE.pln, hE.lvs, HZz.out _ hE.row.below⟩ (fun hHeld => ?_)
      clear hK K
      try simp only [Act.put, sA0, sB0, sC0]
      refine one_ready 11 rfl (by kernel_rfl) (fun K hK => ?_)
      go_simp
      refine (HLe1.out _).mono ?_
      rintro e wy ⟨A1, cap1, rfl, hv1, hz1, ho1⟩
      have hE := hE.nob ho1
      have hO := hO.then ho1 (fun i h => absurd h (not_nobody i))
      refine hK.out _ _ ⟨hE.pln, hE.lvs, HZz.out _ hE.row.below⟩ (fun hHeld => ?_)
      clear hK K
      try simp only [Act.put, sA0, sB0, sC0]
      have hne1 := hE.row
      refine one_ready 12 (o := ⟨some 66, _, _, _, _, _⟩) rfl (by kernel_rfl) (fun K hK => ?_)
      refine step_ev rfl (.tmp 54) (.tmp 65) rfl ve lx es rfl hE.row A1 cap1 rfl hv1 hz1 (by omega) ?_
      intro A2 cap2 wx hE2 hgr
      obtain ⟨bp, bl, be⟩ := hE.grownB hgr
      refine hK.out _ _ ⟨bp, bl, HZz.out _ hE2.below⟩ (fun hHeld => ?_)
      clear hK K
      try simp only [Act.put, sA0, sB0, sC0]
      refine one_ready 13 (o := ⟨none, _, _, _, _, _⟩) rfl (by kernel_rfl) (fun K hK => ?_)
      have c8 := be.cell 0
      have f8 := be.frozen 0
      simp at c8
      go_simp
      have hE3 := hE.put hE2 hgr
      refine hK.out _ _ ⟨hE3.pln, hE3.lvs, HZz.out _ hE3.row.below⟩ (fun _ => ?_)
      clear hK K
      refine wpAnyH_done (by kernel_rfl) ?_ _
      exact REST13 _ _ _ hE3 (hO.trans (Sv.putOnly hgr _))
     ·go_simp
      refine (HRg.out _ hx).mono ?_
      rintro e wy ⟨rfl, hb⟩
      have hE := hE.nob (Only.of_below hb)
      have hO := hO.then (Only.of_below (S := nobody) hb) (fun i h => absurd h (not_nobody i))
      refine hK.out _ _ ⟨hE.pln, hE.lvs, HZz.out _ hE.row.below⟩ (fun hHeld => ?_)
      clear hK K
      try simp only [Act.put, sA0, sB0, sC0]
      refine wpAnyH_ready (rs := [0, 7]) (by kernel_rfl) (by simp) (AllReadyH.cons rfl (fun K hK => ?_) (AllReadyH.cons rfl (fun K hK => ?_) (AllReadyH.nil)))
      ·have c8 := hE.evs.cell 0
       simp at c8
       go_simp
       refine hK.out _ _ ⟨hE.pln, hE.lvs, HZz.out _ hE.row.below⟩ (fun hHeld => ?_)
       clear hK K c8
       try simp only [Act.put, sA0, sB0, sC0]
       refine one_ready 7 rfl (by kernel_rfl) (fun K hK => ?_)
       go_simp
       refine (HCf.out _ hx).mono ?_
       rintro e wy ⟨rfl, hb⟩
       have hE := hE.nob (Only.of_below hb)
       have hO := hO.then (Only.of_below (S := nobody) hb) (fun i h => absurd h (not_nobody i))
       refine hK.out _ _ ⟨hE.pln, hE.lvs, HZz.out _ hE.row.below⟩ (fun hHeld => ?_)
       clear hK K
       try simp only [Act.put, sA0, sB0, sC0]
       refine one_ready 11 rfl (by kernel_rfl) (fun K hK => ?_)
       go_simp
       refine (HLe1.out _).mono ?_
       rintro e wy ⟨A1, cap1, rfl, hv1, hz1, ho1⟩
       have hE := hE.nob ho1
       have hO := hO.then ho1 (fun i h => absurd h (not_nobody i))
       refine hK.out _ _ ⟨hE.pln, hE.lvs, HZz.out _ hE.row.below⟩ (fun hHeld => ?_)
       clear hK K
       try simp only [Act.put, sA0, sB0, sC0]
       have hne1 := hE.row
       refine one_ready 12 (o := ⟨some 66, _, _, _, _, _⟩) rfl (by kernel_rfl) (fun K hK => ?_)
       refine step_ev rfl (.tmp 54) (.tmp 65) rfl ve lx es rfl hE.row A1 cap1 rfl hv1 hz1 (by omega) ?_
       intro A2 cap2 wx hE2 hgr
       obtain ⟨bp, bl, be⟩ := hE.grownB hgr
       refine hK.out _ _ ⟨bp, bl, HZz.out _ hE2.below⟩ (fun hHeld => ?_)
       clear hK K
       try simp only [Act.put, sA0, sB0, sC0]
       refine one_ready 13 (o := ⟨none, _, _, _, _, _⟩) rfl (by kernel_rfl) (fun K hK => ?_)
       have c8 := be.cell 0
       have f8 := be.frozen 0
       simp at c8
       go_simp
       have hE3 := hE.put hE2 hgr
       refine hK.out _ _ ⟨hE3.pln, hE3.lvs, HZz.out _ hE3.row.below⟩ (fun _ => ?_)
       clear hK K
       refine wpAnyH_done (by kernel_rfl) ?_ _
       exact REST13 _ _ _ hE3 (hO.trans (Sv.putOnly hgr _))
      ·go_simp
       refine (HCf.out _ hx).mono ?_
       rintro e wy ⟨rfl, hb⟩
       have hE := hE.nob (Only.of_below hb)
       have hO := hO.then (Only.of_below (S := nobody) hb) (fun i h => absurd h (not_nobody i))
       refine hK.out _ _ ⟨hE.pln, hE.lvs, HZz.out _ hE.row.below⟩ (fun hHeld => ?_)
       clear hK K
       try simp only [Act.put, sA0, sB0, sC0]
       refine wpAnyH_ready (rs := [0, 11]) (by kernel_rfl) (by simp) (AllReadyH.cons rfl (fun K hK => ?_) (AllReadyH.cons rfl (fun K hK => ?_) (AllReadyH.nil)))
       ·have c8 := hE.evs.cell 0
        simp at c8
        go_simp
        refine hK.out _ _ ⟨hE.pln, hE.lvs, HZz.out _ hE.row.below⟩ (fun hHeld => ?_)
        clear hK K c8
        try simp only [Act.put, sA0, sB0, sC0]
        refine one_ready 11 rfl (by kernel_rfl) (fun K hK => ?_)
        go_simp
        refine (HLe1.out _).mono ?_
        rintro e wy ⟨A1, cap1, rfl, hv1, hz1, ho1⟩
        have hE := hE.nob ho1
        have hO := hO.then ho1 (fun i h => absurd h (not_nobody i))
        refine hK.out _ _ ⟨hE.pln, hE.lvs, HZz.out _ hE.row.below⟩ (fun hHeld => ?_)
        clear hK K
        try simp only [Act.put, sA0, sB0, sC0]
        have hne1 := hE.row
        refine one_ready 12 (o := ⟨some 66, _, _, _, _, _⟩) rfl (by kernel_rfl) (fun K hK => ?_)
        refine step_ev rfl (.tmp 54) (.tmp 65) rfl ve lx es rfl hE.row A1 cap1 rfl hv1 hz1 (by omega) ?_
        intro A2 cap2 wx hE2 hgr
        obtain ⟨bp, bl, be⟩ := hE.grownB hgr
        refine hK.out _ _ ⟨bp, bl, HZz.out _ hE2.below⟩ (fun hHeld => ?_)
        clear hK K
        try simp only [Act.put, sA0, sB0, sC0]
        refine one_ready 13 (o := ⟨none, _, _, _, _, _⟩) rfl (by kernel_rfl) (fun K hK => ?_)
        have c8 := be.cell 0
        have f8 := be.frozen 0
        simp at c8
        go_simp
        have hE3 := hE.put hE2 hgr
        refine hK.out _ _ ⟨hE3.pln, hE3.lvs, HZz.out _ hE3.row.below⟩ (fun _ => ?_)
        clear hK K
        refine wpAnyH_done (by kernel_rfl) ?_ _
        exact REST13 _ _ _ hE3 (hO.trans (Sv.putOnly hgr _))
       ·go_simp
        refine (HLe1.out _).mono ?_
        rintro e wy ⟨A1, cap1, rfl, hv1, hz1, ho1⟩
        have hE := hE.nob ho1
        have hO := hO.then ho1 (fun i h => absurd h (not_nobody i))
        refine hK.out _ _ ⟨hE.pln, hE.lvs, HZz.out _ hE.row.below⟩ (fun hHeld => ?_)
        clear hK K
        try simp only [Act.put, sA0, sB0, sC0]
        refine one_ready 0 rfl (by kernel_rfl) (fun K hK => ?_)
        have c8 := hE.evs.cell 0
        simp at c8
        go_simp
        refine hK.out _ _ ⟨hE.pln, hE.lvs, HZz.out _ hE.row.below⟩ (fun hHeld => ?_)
        clear hK K c8
        try simp only [Act.put, sA0, sB0, sC0]
        have hne1 := hE.row
        refine one_ready 12 (o := ⟨some 66, _, _, _, _, _⟩) rfl (by kernel_rfl) (fun K hK => ?_)
        refine step_ev rfl (.tmp 54) (.tmp 65) rfl ve lx es rfl hE.row A1 cap1 rfl hv1 hz1 (by omega) ?_
        intro A2 cap2 wx hE2 hgr
        obtain ⟨bp, bl, be⟩ := hE.grownB hgr
        refine hK.out _ _ ⟨bp, bl, HZz.out _ hE2.below⟩ (fun hHeld => ?_)
        clear hK K
        try simp only [Act.put, sA0, sB0, sC0]
        refine one_ready 13 (o := ⟨none, _, _, _, _, _⟩) rfl (by kernel_rfl) (fun K hK => ?_)
        have c8 := be.cell 0
        have f8 := be.frozen 0
        simp at c8
        go_simp
        have hE3 := hE.put hE2 hgr
        refine hK.out _ _ ⟨hE3.pln, hE3.lvs, HZz.out _ hE3.row.below⟩ (fun _ => ?_)
        clear hK K
        refine wpAnyH_done (by kernel_rfl) ?_ _
        exact REST13 _ _ _ hE3 (hO.trans (Sv.putOnly hgr _))
    case done =>
     clear hE
     rintro D ys W hD hS ⟨A, v, hA, hE⟩ hK
     obtain ⟨lx, hlx⟩ : ∃ lx, l1 ++ evP c lf i (ys.map lvl) = lx := ⟨_, rfl⟩
     rw [hlx] at hE
     have hlx := hlx.symm
     have hl : ys.length = c.n := by
      have := congrArg List.length hS
      rwa [List.length_map, downL_len] at this
     rw [hS, HPd.out i hik] at hlx
     rw [hl] at hE hA
     have hE := hE.more (show w.heap.size ≤ D by omega) hK
     have hlen2 := Lib.hid hE.len
     have hDd := Lib.hid hD
     gi_wp2
     refine ⟨⟨i + 1, D :: ds, _, _, _, _, _, _, _, _, _, _, _, _, _, _, _, _, _, _, _, _, _, _, _, _, _, _, _, _, _, _, _, _, _, _, _, _, _, _, _, rfl, by omega, List.nodup_cons.2 ⟨fun h => ?_, hnd⟩, ?_⟩, ?_⟩
     ·have := hds D h
      have := hDd.out
      omega
     ·have e1 : c.n * (i + 1) = c.n * i + c.n := Nat.mul_succ _ _
      have e2 : NK - c.n * (i + 1) = m - c.n := by have := HM.out; omega
      have e3 : cap - c.n * (i + 1) = cp - c.n := by have := HCp.out; omega
      have e4 : (evAll c (fun j => ((lf j : Nat) : Int)) (i + 1)).map evI = lx := by
       show (evAll c _ i ++ (topEv c ++ evLev c _ i c.n)).map evI = lx
       rw [List.map_append, List.map_append, HLi.out, HTI.out, hlx, HL1.out, HL0.out]
       simp only [List.append_assoc]
      rw [e2, e3, e4, e1]
      exact ⟨A, v, hA, hE⟩
     ·rw [hlen2.out, HLn.out]
      omega
    case stop =>
     rintro D c' pre W _ _ h _
     exact h.elim
   refine wide_held (S := fun u => Box u pb 166 #[.int .i64 (c.f : Int), .int .i64 c.B, .int .i64 (c.S : Int), .int .i64 (c.T : Int), .int .i64 (c.n : Int)] ∧ Box u lb 39 #[.slice (some ⟨g, c.n * i, none⟩) m cp]) 9 rfl (by kernel_rfl) (by rintro ⟨_, _, h⟩; exact h) ⟨hE.pln.drewN 1, hE.lvs.drewN 1⟩ (fun hHeld => ?_)
   simp only [qA0, qB0, qC0, List.nil_append, List.cons_append]
   have hE := hE.nob ((Only.refl nobody _).drew)
   generalize World.drew _ = wd2 at *
   refine tk1 1 43 (.agg #[.int .i64 (c.f : Int), .int .i64 c.B, .int .i64 (c.S : Int), .int .i64 (c.T : Int), .int .i64 (c.n : Int)]) rfl (Or.inl ⟨by rfl, fun w' hw => by (have y0 := hw.1.cell 0; have y1 := hw.1.cell 1; have y2 := hw.1.cell 2; have y3 := hw.1.cell 3; have y4 := hw.1.cell 4; go_simp)⟩) hHeld ?_
   try simp only [Act.put, sA0, sB0, sC0]
   refine tk1 3 45 (.pointer (some ⟨pb, 1, none⟩)) rfl (Or.inl ⟨by rfl, fun w' hw => by go_simp⟩) hHeld ?_
   try simp only [Act.put, sA0, sB0, sC0]
   refine tk1 4 46 (.agg #[.int .i64 c.B, .int .i64 (c.S : Int), .int .i64 (c.T : Int), .int .i64 (c.n : Int)]) rfl (Or.inl ⟨by rfl, fun w' hw => by (have y0 := hw.1.cell 1; have y1 := hw.1.cell 2; have y2 := hw.1.cell 3; have y3 := hw.1.cell 4; simp at y0 y1 y2 y3; go_simp)⟩) hHeld ?_
   try simp only [Act.put, sA0, sB0, sC0]
   refine wpAnyH_ready (rs := [0, 2]) (by kernel_rfl) (by simp) (AllReadyH.cons rfl (fun K hK => ?_) (AllReadyH.cons rfl (fun K hK => ?_) (AllReadyH.nil)))
   ·have c8 := hE.evs.cell 0
    simp at c8
    go_simp
    refine hK.out _ _ ⟨hE.pln, hE.lvs⟩ (fun hHeld => ?_)
    clear hK K c8
    try simp only [Act.put, sA0, sB0, sC0]
    refine one_ready 2 rfl (by kernel_rfl) (fun K hK => ?_)
    go_simp
    refine (HTp.out _).mono ?_
    rintro e wy ⟨rfl, hb⟩
    have hE := hE.nob (Only.of_below hb)
    refine hK.out _ _ ⟨hE.pln, hE.lvs⟩ (fun hHeld => ?_)
    clear hK K
    try simp only [Act.put, sA0, sB0, sC0]
    refine one_ready 5 rfl (by kernel_rfl) (fun K hK => ?_)
    go_simp
    refine (HTc.out _).mono ?_
    rintro e wy ⟨rfl, hb⟩
    have hE := hE.nob (Only.of_below hb)
    refine hK.out _ _ ⟨hE.pln, hE.lvs⟩ (fun hHeld => ?_)
    clear hK K
    try simp only [Act.put, sA0, sB0, sC0]
    refine one_ready 6 rfl (by kernel_rfl) (fun K hK => ?_)
    go_simp
    refine (HWr.out _).mono ?_
    rintro e wy ⟨A1, cap1, rfl, hv1, hz1, ho1⟩
    have hE := hE.nob ho1
    refine hK.out _ _ ⟨hE.pln, hE.lvs⟩ (fun hHeld => ?_)
    clear hK K
    try simp only [Act.put, sA0, sB0, sC0]
    have hne1 := hE.row
    refine one_ready 7 (o := ⟨some 49, _, _, _, _, _⟩) rfl (by kernel_rfl) (fun K hK => ?_)
    refine step_ev rfl (.tmp 42) (.tmp 48) rfl v0 l0 wl rfl hE.row A1 cap1 rfl hv1 hz1 (by omega) ?_
    intro A2 cap2 wx hE2 hgr
    obtain ⟨bp, bl, be⟩ := hE.grownB hgr
    refine hK.out _ _ ⟨bp, bl⟩ (fun hHeld => ?_)
    clear hK K
    try simp only [Act.put, sA0, sB0, sC0]
    refine one_ready 8 (o := ⟨none, _, _, _, _, _⟩) rfl (by kernel_rfl) (fun K hK => ?_)
    have c8 := be.cell 0
    have f8 := be.frozen 0
    simp at c8
    go_simp
    have hE3 := hE.put hE2 hgr
    refine hK.out _ _ ⟨hE3.pln, hE3.lvs⟩ (fun _ => ?_)
    clear hK K
    refine wpAnyH_done (by kernel_rfl) ?_ _
    exact REST10 _ _ _ _ rfl hE3
   ·go_simp
    refine (HTp.out _).mono ?_
    rintro e wy ⟨rfl, hb⟩
    have hE := hE.nob (Only.of_below hb)
    refine hK.out _ _ ⟨hE.pln, hE.lvs⟩ (fun hHeld => ?_)
    clear hK K
    try simp only [Act.put, sA0, sB0, sC0]
    refine wpAnyH_ready (rs := [0, 5]) (by kernel_rfl) (by simp) (AllReadyH.cons rfl (fun K hK => ?_) (AllReadyH.cons rfl (fun K hK => ?_) (AllReadyH.nil)))
    ·have c8 := hE.evs.cell 0
     simp at c8
     go_simp
     refine hK.out _ _ ⟨hE.pln, hE.lvs⟩ (fun hHeld => ?_)
     clear hK K c8
     try simp only [Act.put, sA0, sB0, sC0]
     refine one_ready 5 rfl (by kernel_rfl) (fun K hK => ?_)
     go_simp
     refine (HTc.out _).mono ?_
     rintro e wy ⟨rfl, hb⟩
     have hE := hE.nob (Only.of_below hb)
     refine hK.out _ _ ⟨hE.pln, hE.lvs⟩ (fun hHeld => ?_)
     clear hK K
     try simp only [Act.put, sA0, sB0, sC0]
     refine one_ready 6 rfl (by kernel_rfl) (fun K hK => ?_)
     go_simp
     refine (HWr.out _).mono ?_
     rintro e wy ⟨A1, cap1, rfl, hv1, hz1, ho1⟩
     have hE := hE.nob ho1
     refine hK.out _ _ ⟨hE.pln, hE.lvs⟩ (fun hHeld => ?_)
     clear hK K
     try simp only [Act.put, sA0, sB0, sC0]
     have hne1 := hE.row
     refine one_ready 7 (o := ⟨some 49, _, _, _, _, _⟩) rfl (by kernel_rfl) (fun K hK => ?_)
     refine step_ev rfl (.tmp 42) (.tmp 48) rfl v0 l0 wl rfl hE.row A1 cap1 rfl hv1 hz1 (by omega) ?_
     intro A2 cap2 wx hE2 hgr
     obtain ⟨bp, bl, be⟩ := hE.grownB hgr
     refine hK.out _ _ ⟨bp, bl⟩ (fun hHeld => ?_)
     clear hK K
     try simp only [Act.put, sA0, sB0, sC0]
     refine one_ready 8 (o := ⟨none, _, _, _, _, _⟩) rfl (by kernel_rfl) (fun K hK => ?_)
     have c8 := be.cell 0
     have f8 := be.frozen 0
     simp at c8
     go_simp
     have hE3 := hE.put hE2 hgr
     refine hK.out _ _ ⟨hE3.pln, hE3.lvs⟩ (fun _ => ?_)
     clear hK K
     refine wpAnyH_done (by kernel_rfl) ?_ _
     exact REST10 _ _ _ _ rfl hE3
    ·go_simp
     refine (HTc.out _).mono ?_
     rintro e wy ⟨rfl, hb⟩
     have hE := hE.nob (Only.of_below hb)
     refine hK.out _ _ ⟨hE.pln, hE.lvs⟩ (fun hHeld => ?_)
     clear hK K
     try simp only [Act.put, sA0, sB0, sC0]
     refine wpAnyH_ready (rs := [0, 6]) (by kernel_rfl) (by simp) (AllReadyH.cons rfl (fun K hK => ?_) (AllReadyH.cons rfl (fun K hK => ?_) (AllReadyH.nil)))
     ·have c8 := hE.evs.cell 0
      simp at c8
      go_simp
      refine hK.out _ _ ⟨hE.pln, hE.lvs⟩ (fun hHeld => ?_)
      clear hK K c8
      try simp only [Act.put, sA0, sB0, sC0]
      refine one_ready 6 rfl (by kernel_rfl) (fun K hK => ?_)
      go_simp
      refine (HWr.out _).mono ?_
      rintro e wy ⟨A1, cap1, rfl, hv1, hz1, ho1⟩
      have hE := hE.nob ho1
      refine hK.out _ _ ⟨hE.pln, hE.lvs⟩ (fun hHeld => ?_)
      clear hK K
      try simp only [Act.put, sA0, sB0, sC0]
      have hne1 := hE.row
      refine one_ready 7 (o := ⟨some 49, _, _, _, _, _⟩) rfl (by kernel_rfl) (fun K hK => ?_)
      refine step_ev rfl (.tmp 42) (.tmp 48) rfl v0 l0 wl rfl hE.row A1 cap1 rfl hv1 hz1 (by omega) ?_
      intro A2 cap2 wx hE2 hgr
      obtain ⟨bp, bl, be⟩ := hE.grownB hgr
      refine hK.out _ _ ⟨bp, bl⟩ (fun hHeld => ?_)
      clear hK K
      try simp only [Act.put, sA0, sB0, sC0]
      refine one_ready 8 (o := ⟨none, _, _, _, _, _⟩) rfl (by kernel_rfl) (fun K hK => ?_)
      have c8 := be.cell 0
      have f8 := be.frozen 0
      simp at c8
      go_simp
      have hE3 := hE.put hE2 hgr
      refine hK.out _ _ ⟨hE3.pln, hE3.lvs⟩ (fun _ => ?_)
      clear hK K
      refine wpAnyH_done (by kernel_rfl) ?_ _
      exact REST10 _ _ _ _ rfl hE3
     ·go_simp
      refine (HWr.out _).mono ?_
      rintro e wy ⟨A1, cap1, rfl, hv1, hz1, ho1⟩
      have hE := hE.nob ho1
      refine hK.out _ _ ⟨hE.pln, hE.lvs⟩ (fun hHeld => ?_)
      clear hK K
      try simp only [Act.put, sA0, sB0, sC0]
      refine one_ready 0 rfl (by kernel_rfl) (fun K hK => ?_)
      have c8 := hE.evs.cell 0
      simp at c8
      go_simp
      refine hK.out _ _ ⟨hE.pln, hE.lvs⟩ (fun hHeld => ?_)
      clear hK K c8
      try simp only [Act.put, sA0, sB0, sC0]
      have hne1 := hE.row
      refine one_ready 7 (o := ⟨some 49, _, _, _, _, _⟩) rfl (by kernel_rfl) (fun K hK => ?_)
      refine step_ev rfl (.tmp 42) (.tmp 48) rfl v0 l0 wl rfl hE.row A1 cap1 rfl hv1 hz1 (by omega) ?_
      intro A2 cap2 wx hE2 hgr
      obtain ⟨bp, bl, be⟩ := hE.grownB hgr
      refine hK.out _ _ ⟨bp, bl⟩ (fun hHeld => ?_)
      clear hK K
      try simp only [Act.put, sA0, sB0, sC0]
      refine one_ready 8 (o := ⟨none, _, _, _, _, _⟩) rfl (by kernel_rfl) (fun K hK => ?_)
      have c8 := be.cell 0
      have f8 := be.frozen 0
      simp at c8
      go_simp
      have hE3 := hE.put hE2 hgr
      refine hK.out _ _ ⟨hE3.pln, hE3.lvs⟩ (fun _ => ?_)
      clear hK K
      refine wpAnyH_done (by kernel_rfl) ?_ _
      exact REST10 _ _ _ _ rfl hE3
  refine wide_held (S := fun u => Box u pb 166 #[.int .i64 (c.f : Int), .int .i64 c.B, .int .i64 (c.S : Int), .int .i64 (c.T : Int), .int .i64 (c.n : Int)] ∧ Box u lb 39 #[.slice (some ⟨g, c.n * i, none⟩) m cp]) 9 rfl (by kernel_rfl) (by rintro ⟨_, _, h⟩; exact h) ⟨hE.pln.drewN 1, hE.lvs.drewN 1⟩ (fun hHeld => ?_)
  simp only [qA0, qB0, qC0, List.nil_append, List.cons_append]
  have hE := hE.nob ((Only.refl nobody _).drew)
  generalize World.drew _ = wd at *
  refine tk1 1 35 (.agg #[.int .i64 (c.f : Int), .int .i64 c.B, .int .i64 (c.S : Int), .int .i64 (c.T : Int), .int .i64 (c.n : Int)]) rfl (Or.inl ⟨by rfl, fun w' hw => by (have y0 := hw.1.cell 0; have y1 := hw.1.cell 1; have y2 := hw.1.cell 2; have y3 := hw.1.cell 3; have y4 := hw.1.cell 4; go_simp)⟩) hHeld ?_
  try simp only [Act.put, sA0, sB0, sC0]
  refine tk1 3 37 (.pointer (some ⟨pb, 1, none⟩)) rfl (Or.inl ⟨by rfl, fun w' hw => by go_simp⟩) hHeld ?_
  try simp only [Act.put, sA0, sB0, sC0]
  refine tk1 4 38 (.agg #[.int .i64 c.B, .int .i64 (c.S : Int), .int .i64 (c.T : Int), .int .i64 (c.n : Int)]) rfl (Or.inl ⟨by rfl, fun w' hw => by (have y0 := hw.1.cell 1; have y1 := hw.1.cell 2; have y2 := hw.1.cell 3; have y3 := hw.1.cell 4; simp at y0 y1 y2 y3; go_simp)⟩) hHeld ?_
  try simp only [Act.put, sA0, sB0, sC0]
  refine wpAnyH_ready (rs := [0, 2]) (by kernel_rfl) (by simp) (AllReadyH.cons rfl (fun K hK => ?_) (AllReadyH.cons rfl (fun K hK => ?_) (AllReadyH.nil)))
  ·have c8 := hE.evs.cell 0
   simp at c8
   go_simp
   refine hK.out _ _ ⟨hE.pln, hE.lvs⟩ (fun hHeld => ?_)
   clear hK K c8
   try simp only [Act.put, sA0, sB0, sC0]
   refine one_ready 2 rfl (by kernel_rfl) (fun K hK => ?_)
   go_simp
   refine (HTp.out _).mono ?_
   rintro e wy ⟨rfl, hb⟩
   have hE := hE.nob (Only.of_below hb)
   refine hK.out _ _ ⟨hE.pln, hE.lvs⟩ (fun hHeld => ?_)
   clear hK K
   try simp only [Act.put, sA0, sB0, sC0]
   refine one_ready 5 rfl (by kernel_rfl) (fun K hK => ?_)
   go_simp
   refine (HTc.out _).mono ?_
   rintro e wy ⟨rfl, hb⟩
   have hE := hE.nob (Only.of_below hb)
   refine hK.out _ _ ⟨hE.pln, hE.lvs⟩ (fun hHeld => ?_)
   clear hK K
   try simp only [Act.put, sA0, sB0, sC0]
   refine one_ready 6 rfl (by kernel_rfl) (fun K hK => ?_)
   go_simp
   refine (HRd.out _).mono ?_
   rintro e wy ⟨A1, cap1, rfl, hv1, hz1, ho1⟩
   have hE := hE.nob ho1
   refine hK.out _ _ ⟨hE.pln, hE.lvs⟩ (fun hHeld => ?_)
   clear hK K
   try simp only [Act.put, sA0, sB0, sC0]
   have hne1 := hE.row
   refine one_ready 7 (o := ⟨some 41, _, _, _, _, _⟩) rfl (by kernel_rfl) (fun K hK => ?_)
   refine step_ev rfl (.tmp 34) (.tmp 40) rfl v li rl rfl hE.row A1 cap1 rfl hv1 hz1 (by omega) ?_
   intro A2 cap2 wx hE2 hgr
   obtain ⟨bp, bl, be⟩ := hE.grownB hgr
   refine hK.out _ _ ⟨bp, bl⟩ (fun hHeld => ?_)
   clear hK K
   try simp only [Act.put, sA0, sB0, sC0]
   refine one_ready 8 (o := ⟨none, _, _, _, _, _⟩) rfl (by kernel_rfl) (fun K hK => ?_)
   have c8 := be.cell 0
   have f8 := be.frozen 0
   simp at c8
   go_simp
   have hE3 := hE.put hE2 hgr
   refine hK.out _ _ ⟨hE3.pln, hE3.lvs⟩ (fun _ => ?_)
   clear hK K
   refine wpAnyH_done (by kernel_rfl) ?_ _
   exact REST9 _ _ _ _ rfl hE3
  ·go_simp
   refine (HTp.out _).mono ?_
   rintro e wy ⟨rfl, hb⟩
   have hE := hE.nob (Only.of_below hb)
   refine hK.out _ _ ⟨hE.pln, hE.lvs⟩ (fun hHeld => ?_)
   clear hK K
   try simp only [Act.put, sA0, sB0, sC0]
   refine wpAnyH_ready (rs := [0, 5]) (by kernel_rfl) (by simp) (AllReadyH.cons rfl (fun K hK => ?_) (AllReadyH.cons rfl (fun K hK => ?_) (AllReadyH.nil)))
   ·have c8 := hE.evs.cell 0
    simp at c8
    go_simp
    refine hK.out _ _ ⟨hE.pln, hE.lvs⟩ (fun hHeld => ?_)
    clear hK K c8
    try simp only [Act.put, sA0, sB0, sC0]
    refine one_ready 5 rfl (by kernel_rfl) (fun K hK => ?_)
    go_simp
    refine (HTc.out _).mono ?_
    rintro e wy ⟨rfl, hb⟩
    have hE := hE.nob (Only.of_below hb)
    refine hK.out _ _ ⟨hE.pln, hE.lvs⟩ (fun hHeld => ?_)
    clear hK K
    try simp only [Act.put, sA0, sB0, sC0]
    refine one_ready 6 rfl (by kernel_rfl) (fun K hK => ?_)
    go_simp
    refine (HRd.out _).mono ?_
    rintro e wy ⟨A1, cap1, rfl, hv1, hz1, ho1⟩
    have hE := hE.nob ho1
    refine hK.out _ _ ⟨hE.pln, hE.lvs⟩ (fun hHeld => ?_)
    clear hK K
    try simp only [Act.put, sA0, sB0, sC0]
    have hne1 := hE.row
    refine one_ready 7 (o := ⟨some 41, _, _, _, _, _⟩) rfl (by kernel_rfl) (fun K hK => ?_)
    refine step_ev rfl (.tmp 34) (.tmp 40) rfl v li rl rfl hE.row A1 cap1 rfl hv1 hz1 (by omega) ?_
    intro A2 cap2 wx hE2 hgr
    obtain ⟨bp, bl, be⟩ := hE.grownB hgr
    refine hK.out _ _ ⟨bp, bl⟩ (fun hHeld => ?_)
    clear hK K
    try simp only [Act.put, sA0, sB0, sC0]
    refine one_ready 8 (o := ⟨none, _, _, _, _, _⟩) rfl (by kernel_rfl) (fun K hK => ?_)
    have c8 := be.cell 0
    have f8 := be.frozen 0
    simp at c8
    go_simp
    have hE3 := hE.put hE2 hgr
    refine hK.out _ _ ⟨hE3.pln, hE3.lvs⟩ (fun _ => ?_)
    clear hK K
    refine wpAnyH_done (by kernel_rfl) ?_ _
    exact REST9 _ _ _ _ rfl hE3
   ·go_simp
    refine (HTc.out _).mono ?_
    rintro e wy ⟨rfl, hb⟩
    have hE := hE.nob (Only.of_below hb)
    refine hK.out _ _ ⟨hE.pln, hE.lvs⟩ (fun hHeld => ?_)
    clear hK K
    try simp only [Act.put, sA0, sB0, sC0]
    refine wpAnyH_ready (rs := [0, 6]) (by kernel_rfl) (by simp) (AllReadyH.cons rfl (fun K hK => ?_) (AllReadyH.cons rfl (fun K hK => ?_) (AllReadyH.nil)))
    ·have c8 := hE.evs.cell 0
     simp at c8
     go_simp
     refine hK.out _ _ ⟨hE.pln, hE.lvs⟩ (fun hHeld => ?_)
     clear hK K c8
     try simp only [Act.put, sA0, sB0, sC0]
     refine one_ready 6 rfl (by kernel_rfl) (fun K hK => ?_)
     go_simp
     refine (HRd.out _).mono ?_
     rintro e wy ⟨A1, cap1, rfl, hv1, hz1, ho1⟩
     have hE := hE.nob ho1
     refine hK.out _ _ ⟨hE.pln, hE.lvs⟩ (fun hHeld => ?_)
     clear hK K
     try simp only [Act.put, sA0, sB0, sC0]
     have hne1 := hE.row
     refine one_ready 7 (o := ⟨some 41, _, _, _, _, _⟩) rfl (by kernel_rfl) (fun K hK => ?_)
     refine step_ev rfl (.tmp 34) (.tmp 40) rfl v li rl rfl hE.row A1 cap1 rfl hv1 hz1 (by omega) ?_
     intro A2 cap2 wx hE2 hgr
     obtain ⟨bp, bl, be⟩ := hE.grownB hgr
     refine hK.out _ _ ⟨bp, bl⟩ (fun hHeld => ?_)
     clear hK K
     try simp only [Act.put, sA0, sB0, sC0]
     refine one_ready 8 (o := ⟨none, _, _, _, _, _⟩) rfl (by kernel_rfl) (fun K hK => ?_)
     have c8 := be.cell 0
     have f8 := be.frozen 0
     simp at c8
     go_simp
     have hE3 := hE.put hE2 hgr
     refine hK.out _ _ ⟨hE3.pln, hE3.lvs⟩ (fun _ => ?_)
     clear hK K
     refine wpAnyH_done (by kernel_rfl) ?_ _
     exact REST9 _ _ _ _ rfl hE3
    ·go_simp
     refine (HRd.out _).mono ?_
     rintro e wy ⟨A1, cap1, rfl, hv1, hz1, ho1⟩
     have hE := hE.nob ho1
     refine hK.out _ _ ⟨hE.pln, hE.lvs⟩ (fun hHeld => ?_)
     clear hK K
     try simp only [Act.put, sA0, sB0, sC0]
     refine one_ready 0 rfl (by kernel_rfl) (fun K hK => ?_)
     have c8 := hE.evs.cell 0
     simp at c8
     go_simp
     refine hK.out _ _ ⟨hE.pln, hE.lvs⟩ (fun hHeld => ?_)
     clear hK K c8
     try simp only [Act.put, sA0, sB0, sC0]
     have hne1 := hE.row
     refine one_ready 7 (o := ⟨some 41, _, _, _, _, _⟩) rfl (by kernel_rfl) (fun K hK => ?_)
     refine step_ev rfl (.tmp 34) (.tmp 40) rfl v li rl rfl hE.row A1 cap1 rfl hv1 hz1 (by omega) ?_
     intro A2 cap2 wx hE2 hgr
     obtain ⟨bp, bl, be⟩ := hE.grownB hgr
     refine hK.out _ _ ⟨bp, bl⟩ (fun hHeld => ?_)
     clear hK K
     try simp only [Act.put, sA0, sB0, sC0]
     refine one_ready 8 (o := ⟨none, _, _, _, _, _⟩) rfl (by kernel_rfl) (fun K hK => ?_)
     have c8 := be.cell 0
     have f8 := be.frozen 0
     simp at c8
     go_simp
     have hE3 := hE.put hE2 hgr
     refine hK.out _ _ ⟨hE3.pln, hE3.lvs⟩ (fun _ => ?_)
     clear hK K
     refine wpAnyH_done (by kernel_rfl) ?_ _
     exact REST9 _ _ _ _ rfl hE3
 ·obtain rfl : i = k := by omega
  have h0 : m = 0 := by
   have h1 := HNK.out
   have h2 := HM.out
   omega
  have h0' : ¬ (0 : Int) < (m : Int) := by omega
  have hmk := hE.mks
  have HD : Hid (Sv w c lb pb eb (.slice A m cp) v li [] W) := Lib.hid ⟨hE.pln, hE.lvs, hE.evs, hE.row, fun D hD => (by cases hD), hE.oldl, hE.olde⟩
  have c8 := hE.evs.cell 0
  simp at c8
  clear hE h0 hA
  gi_wp2_with fail
  refine leaves_marks (B := w.heap.size) (J := fun W => Sv w c lb pb eb (.slice A m cp) v li [] W) (fun W D h hB hD => h.nonc (B := w.heap.size) (Nat.le_refl _) (fun D hD => by cases hD) (only_nonc (grownBy_putObj' W D (.deferred none)) (fun r e => by cases e; exact ⟨hB, _, hD, rfl⟩))) (fun W h => ⟨_, results_tmp rfl _ _ _, ?_⟩) ds _ hnd hmk HD.out
  rw [HLi.out]
  exact ev_done h.row (Below.refl _ _)
end Go.Proofs.YtknnebhjldfkhaaGreat


namespace Go.Proofs.YtknnebhjldfkhaaGreat
set_option maxRecDepth 100000
open Go.RowKit Go.Shelf Go.ChangeShapes Go.WideShapes Go.ChangeAt
attribute [local go_sem] Oper.semAt_some

set_option linter.unusedSimpArgs false in
set_option maxHeartbeats 4000000 in
theorem sevents_none {c : SC} (hc : c.Ok) (w : World) : Calls Tryz.prog 60 #[.int .i64 (c.f : Int), .agg #[.int .i64 c.B, .int .i64 (c.S : Int), .int .i64 (c.T : Int), .int .i64 (c.n : Int)], .slice none 0 0] w (EvPost w []) := by
 have hn1 := hc.n1
 have hn4 := hc.n4
 have hb10 := hc.b10
 have hf50 := hc.f50
 have hcf := hc.conf 0 (by omega)
 have HR : Hid (∀ W, Calls Tryz.prog 58 #[.agg #[.int .i64 c.B, .int .i64 (c.S : Int), .int .i64 (c.T : Int), .int .i64 (c.n : Int)]] W fun e w' => e = .returned (.bool true) ∧ Below W.heap.size W w') := Lib.hid fun W => by
  have h := sright_in c.b (c.S : Int) (c.T : Int) c.n W hb10 hn1 hn4
  rw [show isSt (c.S : Int) (c.T : Int) = true from (isSt_iff _ _).2 ⟨⟨by have := hcf.s1; omega, by have := hcf.s8; omega⟩, by have := hcf.t1; omega, by have := hcf.t64; omega⟩] at h
  unfold scA at h
  rwa [hc.bB] at h
 have HHv : Hid (∀ W, Below w.heap.size w W → Calls Tryz.prog 125 #[.agg #[.int .i64 c.B, .int .i64 (c.S : Int), .int .i64 (c.T : Int), .int .i64 (c.n : Int)], .slice none 0 0] W fun e w' => e = .returned (.bool true) ∧ Below W.heap.size W w') := Lib.hid fun W hb => by
  have h := leaves_there (N := 0) (A := none) (S := (c.S : Int)) (T := (c.T : Int)) (cap := 0) (lf := fun _ => 0) W hb10 hn1 hn4 (by omega) (fun h => absurd h (by omega)) (fun i hi => absurd hi (by omega))
  unfold scA at h
  rwa [hc.bB] at h
 have hmod : (0 : Int).tmod (c.n : Int) = 0 := by simp
 have hcn0 : ¬ (c.n : Int) = 0 := by omega
 have hcn0' : ¬ c.n = 0 := by omega
 obtain ⟨cb, hcb⟩ : ∃ b, w.heap.size = b := ⟨_, rfl⟩
 obtain ⟨lb, hlb⟩ : ∃ b, cb + 1 = b := ⟨_, rfl⟩
 obtain ⟨w2, hw2⟩ : ∃ w2, (w.alloc (.cells #[.int .i64 c.B, .int .i64 (c.S : Int), .int .i64 (c.T : Int), .int .i64 (c.n : Int)] 79)).alloc (.cells #[.slice none 0 0] 39) = w2 := ⟨_, rfl⟩
 have hx1 : Box w2 cb 79 #[.int .i64 c.B, .int .i64 (c.S : Int), .int .i64 (c.T : Int), .int .i64 (c.n : Int)] := by rw [← hw2, ← hcb]; exact (Box.new w _ _).alloc _
 have hx2 : Box w2 lb 39 #[.slice none 0 0] := by
  have q := Box.new (w.alloc (.cells #[.int .i64 c.B, .int .i64 (c.S : Int), .int .i64 (c.T : Int), .int .i64 (c.n : Int)] 79)) 39 #[.slice none 0 0]
  rw [World.size_alloc, hcb, hlb, hw2] at q
  exact q
 have hb2 : Below w.heap.size w w2 := by rw [← hw2]; exact ((Below.refl _ w).alloc (Nat.le_refl _) _).alloc (by simp) _
 have HW2 := Lib.hid hw2
 have HCb := Lib.hid hcb
 have HLb := Lib.hid hlb
 have k0 := hx1.cell 0
 have k1 := hx1.cell 1
 have k2 := hx1.cell 2
 have k3 := hx1.cell 3
 simp at k0 k1 k2 k3
 clear hw2 hcb hlb
 refine (callsIn_wide (n := 9)).1 ?_
 refine callsIn_of_wp_marks Tryz.func60 rfl trivial ?_ rfl
 simp only [Tryz.ntmps60, List.size_toArray, List.length_cons, List.length_nil, Nat.reduceAdd, Nat.reduceSub, qA0, qB0, qC0, List.append_toArray, List.nil_append, List.cons_append]
 refine calm_wp ?_
 gi_upto_region 1 with fail
 simp only [HCb.out]
 try simp only [HLb.out]
 rw [HW2.out]
 gi_upto_region 3 with (refine ⟨trivial, ?_⟩; gi_at_call 58; refine (callsIn_wide.2 (HR.out _)).mono ?_; rintro e w3 ⟨rfl, hb3⟩)
 have hx1 := hx1.of (hb3.block _ hx1.lt)
 have hx2 := hx2.of (hb3.block _ hx2.lt)
 have hb3 := hb2.trans (hb3.mono hb2.size)
 clear k0 k1 k2 k3 hb2 HR
 have k0 := hx1.cell 0
 have k1 := hx1.cell 1
 have k2 := hx1.cell 2
 have k3 := hx1.cell 3
 simp at k0 k1 k2 k3
 gi_upto_region 4 with fail
 obtain ⟨pb, hpb⟩ : ∃ b, w3.heap.size = b := ⟨_, rfl⟩
 obtain ⟨w4, hw4⟩ : ∃ x, w3.alloc (.cells #[.int .i64 (c.f : Int), .int .i64 c.B, .int .i64 (c.S : Int), .int .i64 (c.T : Int), .int .i64 (c.n : Int)] 166) = x := ⟨_, rfl⟩
 have hx3 : Box w4 pb 166 #[.int .i64 (c.f : Int), .int .i64 c.B, .int .i64 (c.S : Int), .int .i64 (c.T : Int), .int .i64 (c.n : Int)] := by rw [← hw4, ← hpb]; exact Box.new w3 _ _
 have hx1 : Box w4 cb 79 #[.int .i64 c.B, .int .i64 (c.S : Int), .int .i64 (c.T : Int), .int .i64 (c.n : Int)] := by rw [← hw4]; exact hx1.alloc _
 have hx2 : Box w4 lb 39 #[.slice none 0 0] := by rw [← hw4]; exact hx2.alloc _
 have hb4 : Below w.heap.size w w4 := by rw [← hw4]; exact hb3.alloc hb3.size _
 rw [hpb, hw4]
 clear hpb hw4 hb3 k0 k1 k2 k3
 refine wide_held (S := fun u => Box u cb 79 #[.int .i64 c.B, .int .i64 (c.S : Int), .int .i64 (c.T : Int), .int .i64 (c.n : Int)] ∧ Box u lb 39 #[.slice none 0 0]) 11 rfl (by kernel_rfl) (by rintro ⟨_, _, h⟩; exact h) ⟨hx1.drewN 1, hx2.drewN 1⟩ (fun hHeld => ?_)
 simp only [qA0, qB0, qC0, List.nil_append, List.cons_append]
 have hb5 := hb4.drew
 have hx3 := hx3.drewN 1
 have hx3 : Box w4.drew pb 166 #[.int .i64 (c.f : Int), .int .i64 c.B, .int .i64 (c.S : Int), .int .i64 (c.T : Int), .int .i64 (c.n : Int)] := hx3
 clear hx1 hx2 hb4
 generalize World.drew _ = w5 at *
 refine tk1 0 16 (.slice none 0 0) rfl (Or.inl ⟨by rfl, fun w' hw => by (have y := hw.2.cell 0; go_simp)⟩) hHeld ?_
 try simp only [Act.put, sA0, sB0, sC0]
 refine tk1 1 17 (.slice none 0 0) rfl (Or.inl ⟨by rfl, fun w' hw => by (have y := hw.2.cell 0; go_simp)⟩) hHeld ?_
 try simp only [Act.put, sA0, sB0, sC0]
 refine tk1 2 18 (.int .i64 0) rfl (Or.inl ⟨by rfl, fun w' hw => by go_simp⟩) hHeld ?_
 try simp only [Act.put, sA0, sB0, sC0]
 refine tk1 3 19 (.slice none 0 0) rfl (Or.inl ⟨by rfl, fun w' hw => by (have y := hw.2.cell 0; go_simp)⟩) hHeld ?_
 try simp only [Act.put, sA0, sB0, sC0]
 refine tk1 4 20 (.int .i64 0) rfl (Or.inl ⟨by rfl, fun w' hw => by go_simp⟩) hHeld ?_
 try simp only [Act.put, sA0, sB0, sC0]
 refine tk1 5 21 (.pointer (some ⟨cb, 3, none⟩)) rfl (Or.inl ⟨by rfl, fun w' hw => by go_simp⟩) hHeld ?_
 try simp only [Act.put, sA0, sB0, sC0]
 refine tk1 6 22 (.int .i64 (c.n : Int)) rfl (Or.inl ⟨by rfl, fun w' hw => by (have y := hw.1.cell 3; go_simp)⟩) hHeld ?_
 try simp only [Act.put, sA0, sB0, sC0]
 refine tk1 7 23 (.int .i64 0) rfl (Or.inl ⟨by rfl, fun w' hw => by (go_simp; first | done | omega | (rw [IntKind.wrap_i64]; omega) | (intro h; omega))⟩) hHeld ?_
 try simp only [Act.put, sA0, sB0, sC0]
 refine tk1 8 24 (.int .i64 0) rfl (Or.inl ⟨by rfl, fun w' hw => by (go_simp; first | done | omega | (rw [IntKind.wrap_i64]; omega) | (intro h; omega))⟩) hHeld ?_
 try simp only [Act.put, sA0, sB0, sC0]
 refine tk1 9 25 (.slice none 0 0) rfl (Or.inl ⟨by rfl, fun w' hw => by (go_simp; first | done | omega | (rw [IntKind.wrap_i64]; omega) | (intro h; omega))⟩) hHeld ?_
 try simp only [Act.put, sA0, sB0, sC0]
 refine one_ready 10 (o := ⟨none, _, _, _, _, _⟩) rfl (by kernel_rfl) (fun K9 hK => ?_)
 have q0 := hHeld.2.cell 0
 have q1 := hHeld.2.frozen 0
 simp at q0
 go_simp
 have hlo : w.heap.size ≤ lb := by have := HCb.out; have := HLb.out; omega
 have hx2 : Box (w5.setCell ⟨lb, 0, none⟩ (.slice none 0 0)) lb 39 #[.slice none 0 0] := by have := hHeld.2.put 0 (.slice none 0 0); simpa using this
 have hx1 : Box (w5.setCell ⟨lb, 0, none⟩ (.slice none 0 0)) cb 79 #[.int .i64 c.B, .int .i64 (c.S : Int), .int .i64 (c.T : Int), .int .i64 (c.n : Int)] := hHeld.1.far (a := ⟨lb, 0, none⟩) (hHeld.1.ne hHeld.2 (by decide)) _
 have hx3 : Box (w5.setCell ⟨lb, 0, none⟩ (.slice none 0 0)) pb 166 #[.int .i64 (c.f : Int), .int .i64 c.B, .int .i64 (c.S : Int), .int .i64 (c.T : Int), .int .i64 (c.n : Int)] := hx3.far (a := ⟨lb, 0, none⟩) (hx3.ne hHeld.2 (by decide)) _
 have hb6 : Below w.heap.size w (w5.setCell ⟨lb, 0, none⟩ (.slice none 0 0)) := hb5.setCell (p := ⟨lb, 0, none⟩) hlo _
 refine hK.out _ _ ⟨hx1, hx2⟩ (fun hHeld => ?_)
 clear hK K9 q0 q1 hHeld hb5
 generalize World.setCell _ _ _ = w6 at *
 refine wpAnyH_done (by kernel_rfl) ?_ _
 have y0 := hx3.cell 0
 have y1 := hx3.cell 1
 have y2 := hx3.cell 2
 have y3 := hx3.cell 3
 have y4 := hx3.cell 4
 have z0 := hx2.cell 0
 simp at y0 y1 y2 y3 y4 z0
 gi_upto_region 7 with (refine ⟨trivial, ?_⟩; gi_at_call 125; refine (callsIn_wide.2 (HHv.out _ hb6)).mono ?_; rintro e w7 ⟨rfl, hb7⟩)
 have hx3 := hx3.of (hb7.block _ hx3.lt)
 have hx2 := hx2.of (hb7.block _ hx2.lt)
 have hb7 := hb6.trans (hb7.mono hb6.size)
 clear hb6 hx1 y0 y1 y2 y3 y4 z0 HHv
 obtain ⟨eb, heb⟩ : ∃ b, w7.heap.size = b := ⟨_, rfl⟩
 obtain ⟨w8, hw8⟩ : ∃ x, w7.alloc (.cells #[.slice none 0 0] 52) = x := ⟨_, rfl⟩
 have hE : Sv w c lb pb eb (.slice none 0 0) (.slice none 0 0) [] [] w8 := by
  have hb8 : Below w.heap.size w w8 := by rw [← hw8]; exact hb7.alloc hb7.size _
  exact ⟨by rw [← hw8]; exact hx3.alloc _, by rw [← hw8]; exact hx2.alloc _, by rw [← hw8, ← heb]; exact Box.new w7 _ _, (EvAt.nil w).keep hb8 (fun g e => by cases e), (fun D hD => by cases hD), hlo, by rw [← heb]; exact hb7.size⟩
 have HW8 := Lib.hid hw8
 have HEb := Lib.hid heb
 clear hw8 heb hb7 hx2 hx3
 gi_wp2_with fail
 try rw [HEb.out]
 try rw [HW8.out]
 clear HW8 HEb
 rename_i K1 hK1
 refine wpIn_loop (fun a' W => ∃ (u9 u31 u32 u33 u34 u35 u36 u37 u38 u39 u40 u41 u42 u43 u44 u45 u46 u47 u48 u49 u50 u51 u52 u53 u54 u55 u56 u57 u58 u59 u60 u61 u62 u63 u64 u65 u66 u67 u68 : Value), a' = { tmps := #[.int .i64 (c.f : Int), .agg #[.int .i64 c.B, .int .i64 (c.S : Int), .int .i64 (c.T : Int), .int .i64 (c.n : Int)], .slice none 0 0, undef, .pointer (some ⟨cb, 0, none⟩), .pointer (some ⟨lb, 0, none⟩), .slice none 0 0, .pointer (some ⟨pb, 0, none⟩), .pointer (some ⟨eb, 0, none⟩), u9, .agg #[.int .i64 c.B, .int .i64 (c.S : Int), .int .i64 (c.T : Int), .int .i64 (c.n : Int)], .bool true, .bool false, .int .i64 (c.f : Int), .agg #[.int .i64 c.B, .int .i64 (c.S : Int), .int .i64 (c.T : Int), .int .i64 (c.n : Int)], .agg #[.int .i64 (c.f : Int), .int .i64 c.B, .int .i64 (c.S : Int), .int .i64 (c.T : Int), .int .i64 (c.n : Int)], .slice none 0 0, .slice none 0 0, .int .i64 0, .slice none 0 0, .int .i64 0, .pointer (some ⟨cb, 3, none⟩), .int .i64 (c.n : Int), .int .i64 0, .int .i64 0, .slice none 0 0, .pointer (some ⟨pb, 1, none⟩), .agg #[.int .i64 c.B, .int .i64 (c.S : Int), .int .i64 (c.T : Int), .int .i64 (c.n : Int)], .slice none 0 0, .bool true, .bool false, u31, u32, u33, u34, u35, u36, u37, u38, u39, u40, u41, u42, u43, u44, u45, u46, u47, u48, u49, u50, u51, u52, u53, u54, u55, u56, u57, u58, u59, u60, u61, u62, u63, u64, u65, u66, u67, u68, undef], defers := [] } ∧ Sv w c lb pb eb (.slice none 0 0) (.slice none 0 0) [] [] W) (fun _ W => 0) ⟨undef, undef, undef, undef, undef, undef, undef, undef, undef, undef, undef, undef, undef, undef, undef, undef, undef, undef, undef, undef, undef, undef, undef, undef, undef, undef, undef, undef, undef, undef, undef, undef, undef, undef, undef, undef, undef, undef, undef, rfl, hE⟩ ?_
 clear hE
 rintro a' W ⟨u9, u31, u32, u33, u34, u35, u36, u37, u38, u39, u40, u41, u42, u43, u44, u45, u46, u47, u48, u49, u50, u51, u52, u53, u54, u55, u56, u57, u58, u59, u60, u61, u62, u63, u64, u65, u66, u67, u68, rfl, hE⟩
 have x0 := hE.lvs.cell 0
 have c8 := hE.evs.cell 0
 simp at x0 c8
 have HE := Lib.hid hE
 clear hE
 gi_wp2_with fail
 exact ⟨_, results_tmp rfl _ _ _, ev_done HE.out.row (Below.refl _ _)⟩
end Go.Proofs.YtknnebhjldfkhaaGreat


namespace Go.Proofs.YtknnebhjldfkhaaGreat
set_option maxRecDepth 100000
open Go.RowKit Go.ChangeShapes Go.WideShapes Go.ChangeAt Go.Maps Go.Deep

theorem StK.alloc {c : SC} {a : SA} {Z : Nat → Prop} {g : SG} {k : Nat} {w : World} (h : StK c a Z g k w) (o : Obj) : StK c a (fun i => Z i ∨ i = w.heap.size) g k (w.alloc o) :=
 (h.grow ((Only.refl nobody w).alloc o)).weak fun i hi => hi.imp id (fun e => by subst e; exact ⟨Nat.le_refl _, by simp⟩)
structure StS (c : SC) (a : SA) (W : World) (Z : Nat → Prop) (F : World → Prop) (g : SG) (k : Nat) (wr : World) : Prop where
 sk : StK c a Z g k wr
 hz : ∀ i, i < W.heap.size → Z i
 hF : F wr
 st : ∀ u u', W.heap.size ≤ u.heap.size → Kept Z u u' → F u → F u'
 kp : Below W.heap.size W wr
section
variable {c : SC} {a : SA} {W : World} {Z : Nat → Prop} {F : World → Prop} {g : SG} {k : Nat} {wr w' : World}
theorem StS.nob (h : StS c a W Z F g k wr) (ho : Only nobody wr w') : StS c a W Z F g k w' :=
 ⟨h.sk.nob ho, h.hz, h.st _ _ h.kp.size (Kept.of_none ho) h.hF, h.st, below_only h.kp ho h.kp.size (fun _ _ h => h)⟩
theorem StS.drew (h : StS c a W Z F g k wr) : StS c a W Z F g k wr.drew := h.nob (Only.refl _ _).drew
theorem StS.also {G : World → Prop} (h : StS c a W Z F g k wr) (hG : G wr) (st : ∀ u u', W.heap.size ≤ u.heap.size → Kept Z u u' → G u → G u') : StS c a W Z (fun u => F u ∧ G u) g k wr :=
 ⟨h.sk, h.hz, ⟨h.hF, hG⟩, fun u u' hs hk g => ⟨h.st u u' hs hk g.1, st u u' hs hk g.2⟩, h.kp⟩
theorem StS.grow (h : StS c a W Z F g k wr) (o : Obj) {b : Nat} (hb : wr.heap.size = b) : StS c a W (fun i => Z i ∨ i = b) F g k (wr.alloc o) := by
 subst hb
 have ho : Only nobody wr (wr.alloc o) := (Only.refl _ _).alloc _
 exact ⟨h.sk.alloc o, fun i hi => .inl (h.hz i hi), h.st _ _ h.kp.size (Kept.of_none ho) h.hF, fun u u' hs hk g => h.st u u' hs (hk.mono fun i hi => .inl hi) g, below_only h.kp ho h.kp.size (fun _ _ h => h)⟩
theorem StS.box (h : StS c a W Z F g k wr) (t : TypeId) (cs : Array Value) {b : Nat} (hb : wr.heap.size = b) :
  StS c a W (fun i => Z i ∨ i = b) (fun u => F u ∧ Box u b t cs) g k (wr.alloc (.cells cs t)) :=
 (h.grow (.cells cs t) hb).also (by rw [← hb]; exact Box.new wr t cs) (fun _ _ _ hk g => hk.box g (.inr rfl))
theorem StS.step (hc : c.Ok) (h : StS c a W Z F g k wr) (op : Int) (id : Nat) (d : Nat → Int) (hop : isOp op id (2 ^ c.b) = true) (hd : ∀ j, 0 ≤ d j ∧ d j ≤ 18446744073709551615) (hk : k < 19900) :
  Calls Tryz.prog 41 #[.pointer (some ⟨a.sp, 0, none⟩), .int .i64 op, .int .u64 (id : Int), .agg (DA d)] wr fun r w' =>
   ∃ g' rr t, r = .returned (.tuple #[.agg (DA rr), .bool t]) ∧ Grw g g' ∧ (IdOk c g → IdOk c g') ∧
    (NoO c g' → ∀ b, StB c g b → DA rr = DA (datD (b (id : Int))) ∧ t = (b (id : Int)).isSome ∧ StB c g' (setD b (id : Int) (nxD op d (b (id : Int))))) ∧ StS c a W Z F g' (k + 20) w' := by
 refine (h.sk.access hc op id d hop hd hk).mono ?_
 rintro r w' ⟨g', rr, t, rfl, hS, hK, h1, h2, h3⟩
 exact ⟨g', rr, t, rfl, h1, h2, h3, hS, h.hz, h.st _ _ h.kp.size hK h.hF, h.st, h.kp.trans ((hK.mono h.hz).below h.kp.size (fun _ h => h))⟩
theorem StS.over (hc : c.Ok) (h : StS c a W Z F g k wr) : Calls Tryz.prog 44 #[.pointer (some ⟨a.sp, 0, none⟩)] wr fun e w' => e = .returned (.bool (ovN g c.n)) ∧ w' = wr := by
 obtain ⟨_, _, _, h1, _⟩ := h.sk
 exact h1.over hc
end
theorem StS.made {c : SC} {a : SA} {W w3 w4 : World} {g : SG} {F : World → Prop} (hS : StoA c a g none 0 (fun i => w3.heap.size ≤ i ∧ i < w4.heap.size) 0 w4) (ho : Only nobody w3 w4) (hB : Below W.heap.size W w3) (hF : F w3) (st : ∀ u u', W.heap.size ≤ u.heap.size → Kept (fun i => i < w3.heap.size) u u' → F u → F u') :
  StS c a W (fun i => i < w3.heap.size) F g 0 w4 :=
 ⟨⟨none, 0, _, hS, fun i hi => ⟨Nat.lt_of_lt_of_le hi ho.size, fun h => by omega⟩⟩, fun i hi => by have := hB.size; omega, st _ _ hB.size (Kept.of_none ho) hF, st, below_only hB ho hB.size (fun _ _ h => h)⟩
theorem stB_new (c : SC) (nz : Nat) (z : Nat → Int) : StB c (sg0 c nz z) (fun _ => none) := by
 have h0 : ∀ h i, whN c (sg0 c nz z) (fun _ _ => none) h i = (0, 0) := fun h i => by
  unfold whN
  split <;> rfl
 refine ⟨fun _ _ => none, ⟨fun h _ => LvInv.new _ _ _, fun h _ i b hb => (by cases hb), fun h _ i lf d hm => (by cases hm), fun h _ i _ => ?_, fun h _ i b hb => (by cases hb), fun _ _ => rfl⟩, fun _ => rfl⟩
 rw [h0]
 exact ⟨Int.le_refl _, Int.natCast_nonneg _⟩
theorem idOk_new (c : SC) (nz : Nat) (z : Nat → Int) : IdOk c (sg0 c nz z) := fun _ _ hx => absurd hx List.not_mem_nil
theorem StB.ovn {c : SC} {g : SG} {b : Int → Option (Nat → Int)} (h : StB c g b) : ovN g c.n = false := by
 obtain ⟨m, hm, _⟩ := h
 exact (ovN_iff g c.n).2 hm.ovn
end Go.Proofs.YtknnebhjldfkhaaGreat

