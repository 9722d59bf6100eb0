import Derived.Test.YtknnebhjldfkhaaGreatG17
import Derived.Test.YtknnebhjldfkhaaGreatG18
namespace Go.Proofs.YtknnebhjldfkhaaGreat
set_option maxRecDepth 100000
open Go.RowKit Go.ChangeShapes Go.WideShapes Go.ChangeAt

def msk (b : Bool) : Int := if b = true then 18446744073709551615 else 0
theorem me_mk (a b : Int) : me a b = msk (decide (a = b)) := by
 unfold me msk
 by_cases h : a = b
 ·rw [if_pos h, if_pos (decide_eq_true h)]
 ·rw [if_neg h, if_neg (by simp [h])]
theorem and_mk (a b : Bool) : bits .and .u64 (msk a) (msk b) = msk (a && b) := by cases a <;> cases b <;> decide
theorem pk_mk (b : Bool) (x y : Int) (h0 : 0 ≤ x) (h1 : x ≤ 18446744073709551615) (k0 : 0 ≤ y) (k1 : y ≤ 18446744073709551615) : pk (msk b) x y = if b = true then x else y := by
 cases b
 ·exact pk_none x y k0 k1
 ·exact pk_all x y h0 h1
theorem pickCell_mask (b : Bool) (f g : Nat → Int) (w : World) (hf : Wd f) (hg : Wd g) :
  Calls Tryz.prog 75 #[.int .u64 (msk b), .agg (CA f), .agg (CA g)] w fun e w' => e = .returned (.agg (CA (if b = true then f else g))) ∧ Ext w w' :=
 (pickCell_any (msk b) f g w).mono fun e w' ⟨he, n, hw⟩ => ⟨he.trans (by
  rw [CA_ext (fun j => pk (msk b) (f j) (g j)) (if b = true then f else g) (fun j _ => by rw [pk_mk b (f j) (g j) (hf j).1 (hf j).2 (hg j).1 (hg j).2]; cases b <;> rfl)]), by
  rw [hw]; exact (((((Ext.refl w).alloc _ _).alloc _ _).alloc _ _).alloc _ _).drewN n⟩

structure Var (w : World) (b : Nat) (f : Nat → Int) : Prop where
 rng : w.rangeAt b 0 (CA f).toList
 there : w.there b 0 12
section
variable {w w' : World} {b : Nat} {f : Nat → Int} {X S : Nat → Prop}
theorem Var.lt (h : Var w b f) : b < w.heap.size := World.block_lt_of_cell? w ⟨b, 0, none⟩ (cell_in_range h.rng (by decide : 0 < 12))
theorem Var.new (w : World) (f : Nat → Int) (t : TypeId) : Var (w.alloc (.cells (CA f) t)) w.heap.size f := ⟨range_alloc_new w f t, there_new w f t _ rfl⟩
theorem Var.of_block (h : Var w b f) (e : w'.heap[b]? = w.heap[b]?) : Var w' b f :=
 ⟨fun j v hv => (World.cell?_of_block (w := w) e).trans (h.rng j v hv), fun j hj => by
  obtain ⟨h1, h2⟩ := h.there j hj
  exact ⟨by rw [World.cell?_of_block (w := w) e]; exact h1, by rw [World.frozen?_of_block e]; exact h2⟩⟩
theorem Var.only (h : Var w b f) (ho : Only S w w') (hs : ¬ S b) : Var w' b f := h.of_block (ho.block b h.lt hs)
theorem Var.kept (h : Var w b f) (hk : Kept X w w') (hx : X b) : Var w' b f := h.only hk (fun k => k hx)
theorem Var.nob (h : Var w b f) (ho : Only nobody w w') : Var w' b f := h.only ho (not_nobody _)
theorem Var.ext (h : Var w b f) (hx : Ext w w') : Var w' b f := h.nob (none_of_ext hx)
theorem Var.alloc (h : Var w b f) (o : Obj) : Var (w.alloc o) b f := h.nob ((Only.refl _ w).alloc o)
theorem Var.drewN (h : Var w b f) (n : Nat) : Var (w.drewN n) b f := h.nob ((Only.refl _ w).drewN n)
theorem Var.drew (h : Var w b f) : Var w.drew b f := h.drewN 1
theorem Var.set (h : Var w b f) (g : Nat → Int) : Var (w.setCells b 0 (CA g).toList) b g := ⟨World.rangeAt_setCells_same w b 0 _ h.there, World.there_setCells h.there _ _ _⟩
theorem Var.far (h : Var w b f) {c : Nat} (hne : b ≠ c) (vs : List Value) : Var (w.setCells c 0 vs) b f := h.only (only_setCells (S := just c) vs 0 w (Only.refl _ _) (.inl (just_self c))) hne
theorem Var.load (h : Var w b f) : (loadVar 64 ⟨b, 0, none⟩).run Tryz.prog w = .ok (.agg (CA f)) w :=
 run_loadVar_mid _ b 0 64 (CA f).toList _ h.rng Tryz.underlying64 rfl (infoCellL f)
theorem Var.cell (h : Var w b f) {κ : Nat} (hκ : κ < 12) : w.cell? ⟨b, κ, none⟩ = some (.int .u64 (f κ)) := cell_in_range h.rng hκ
end
theorem via {G : Prop} (R : Prop) (h : Hid R → G) (hr : R) : G := h (Lib.hid hr)
theorem step_load_cell {ops : Array Oper} {o : Oper} {a : Act} {w : World} {K : Act → World → Prop} {Q : Exit → Act → World → Prop} {E : Prop} (hgd : o.guard = none) (x : Operand) (ho : o.op = .load 64 x)
  (b i : Nat) (hx : a.eval x = .pointer (some ⟨b, i, none⟩)) (f : Nat → Int) (hr : w.rangeAt b i (CA f).toList)
  (h : K (a.put o.dst (.agg (CA f))) w) : if Region.wanted o (yielded ops a.tmps) = true then Oper.wp Tryz.prog o a w K Q else E := by
 have hw : Region.wanted o (yielded ops a.tmps) = true := by simp [Region.wanted, hgd]
 rw [if_pos hw]
 exact wp_load_mid 64 x ho b i hx (CA f).toList _ hr Tryz.underlying64 rfl (infoCellL f) h
def plus1 (X : Nat → Prop) (n : Nat) : Nat → Prop := fun i => X i ∨ i = n
def plus2 (X : Nat → Prop) (n : Nat) : Nat → Prop := fun i => X i ∨ i = n ∨ i = n + 1
theorem Own.one {w : World} {X : Nat → Prop} {p : Nat} {M : MS} (h : Own w X p M) (o : Obj) : Own (w.alloc o) (plus1 X w.heap.size) p M := h.alloc o
theorem Own.two {w : World} {X : Nat → Prop} {p : Nat} {M : MS} (h : Own w X p M) (o o' : Obj) : Own ((w.alloc o).alloc o') (plus2 X w.heap.size) p M :=
 ((h.alloc o).alloc o').weak (by
  rintro i (k | k | k)
  ·exact .inl (.inl k)
  ·exact .inl (.inr k)
  ·exact .inr (by rw [k]; simp))
theorem MS.size_pos {M : MS} {r : Int} (h : 0 < M.size r) : ∃ q : Nat, r = q ∧ q < M.k ∧ M.size r = M.sz q := by
 unfold MS.size at h ⊢
 by_cases hc : 0 ≤ r ∧ r < M.k
 ·rw [if_pos hc]
  exact ⟨r.toNat, by omega, by omega, rfl⟩
 ·rw [if_neg hc] at h; omega
def gotC (a : Int) (C : Nat → Nat → Int) (i : Nat) : Nat → Int := if a < i then C a.toNat else fun _ => 0
theorem gotC_zero (a : Int) (C : Nat → Nat → Int) (h : 0 ≤ a) : gotC a C 0 = fun _ => 0 := if_neg (by omega)
theorem gotC_step (a : Int) (C : Nat → Nat → Int) (i : Nat) : (if decide ((i : Int) = a) = true then C i else gotC a C i) = gotC a C (i + 1) := by
 unfold gotC
 by_cases h : (i : Int) = a
 ·rw [if_pos (decide_eq_true h), if_pos (by omega)]; subst h; simp
 ·rw [if_neg (by simp [h])]
  by_cases h2 : a < (i : Int)
  ·rw [if_pos h2, if_pos (by omega)]
  ·rw [if_neg h2, if_neg (by omega)]
theorem gotC_wd {a : Int} {C : Nat → Nat → Int} {i : Nat} (h : ∀ j, Wd (C j)) : Wd (gotC a C i) := by
 unfold gotC; split; exact h _; exact wd_zero
end Go.Proofs.YtknnebhjldfkhaaGreat


namespace Go.Proofs.YtknnebhjldfkhaaGreat
set_option maxRecDepth 100000
open Go.RowKit Go.ChangeShapes Go.WideShapes Go.ChangeAt

structure GetAt (w : World) (X : Nat → Prop) (p : Nat) (M : MS) (r : Nat) (a : Int) (i : Nat) (wr : World) : Prop where
 own : Own wr (plus2 X w.heap.size) p (M.looked r i)
 kept : Kept X w wr
 res : Var wr w.heap.size (fun _ => 0)
 got : Var wr (w.heap.size + 1) (gotC a (M.c r) i)
set_option linter.unusedSimpArgs false in
set_option maxRecDepth 100000 in
set_option maxHeartbeats 1000000 in
theorem sc_get_any (X : Nat → Prop) (p : Nat) (M : MS) (r a : Int) (w : World) (h : Own w X p M) (hwd : M.wd) (a0 : 0 ≤ a) (a1 : a ≤ 18446744073709551615) (hl : M.es.length + M.size r < 1000000000) :
  Calls Tryz.prog 152 #[.pointer (some ⟨p, 0, none⟩), .int .i64 r, .int .u64 a] w (OwnPost w X p (M.looked r.toNat (M.size r)) (.agg (CA (gotC a (M.c r.toNat) (M.size r))))) := by
 have HO := Lib.hid h
 have HWD := Lib.hid hwd
 obtain ⟨s, hs⟩ : ∃ s, M.size r = s := ⟨_, rfl⟩
 rw [hs] at hl ⊢
 have HS := Lib.hid hs
 have hsl : s < 1000000000 := by omega
 have HL := Lib.hid hl
 have R0 : Hid (GetAt w X p M r.toNat a 0 ((w.alloc (.cells (CA fun _ => 0) 64)).alloc (.cells (CA fun _ => 0) 64))) := by
  refine GetAt.mk ?_ ?_ ?_ ?_
  ·rw [looked_zero]; exact h.two _ _
  ·exact ((Kept.refl X w).alloc _).alloc _
  ·exact (Var.new w _ _).alloc _
  ·rw [gotC_zero a _ a0]
   have := Var.new (w.alloc (.cells (CA fun _ => 0) 64)) (fun _ => 0) 64
   simpa using this
 have HX : Hid (∀ i, X i → i < w.heap.size) := by obtain ⟨_, _, _, hx⟩ := h; exact hx
 have O0 := Lib.hid (h.two (.cells (CA fun _ => 0) 64) (.cells (CA fun _ => 0) 64))
 clear h hwd hs hl
 go_enter Tryz.func152, Tryz.ntmps152
 go_wp2_with fail
 refine (own_size _ p M _ r O0.out).mono ?_
 rintro e w' ⟨rfl, rfl⟩
 rw [HS.out]
 clear O0
 go_wp2_with fail
 go_loopw [13] (fun v wr => ∃ i : Nat, v = .int .i64 i ∧ i ≤ s ∧ GetAt w X p M r.toNat a i wr) (fun v _ => s - (intOf v).toNat)
 case atStart => exact ⟨0, rfl, Nat.zero_le _, R0.out⟩
 case round =>
  obtain ⟨i, rfl, hi, hG⟩ := hrel
  have HG := Lib.hid hG
  clear hG R0
  by_cases hlt : i < s
  ·obtain ⟨q, rfl, hq, hsz⟩ := MS.size_pos (M := M) (r := r) (by rw [HS.out]; omega)
   rw [HS.out] at hsz
   simp only [Int.toNat_natCast] at HG
   have HST := Lib.hid (looked_step M q i hq (by omega))
   have HCL := Lib.hid (looked_cell M q i hq (by omega))
   have hel : (M.looked q i).es.length < 1000000000 := by have := HL.out; rw [looked_len]; omega
   have HEL := Lib.hid hel
   have hu : IntKind.u64.wrap (i : Int) = (i : Int) := by rw [IntKind.wrap_u64]; omega
   clear hel hq hsz
   go_wp2_with fail
   refine (own_read _ p _ _ (q : Int) (i : Int) HG.out.own HEL.out).mono ?_
   rw [HST.out, HCL.out]
   rintro e w3 ⟨rfl, ho, hk⟩
   obtain ⟨f, hf⟩ : ∃ f, M.c q i = f := ⟨_, rfl⟩
   obtain ⟨g, hg⟩ : ∃ g, gotC a (M.c q) i = g := ⟨_, rfl⟩
   obtain ⟨g', hg'⟩ : ∃ g, gotC a (M.c q) (i + 1) = g := ⟨_, rfl⟩
   have HW1 : Hid (Wd f) := by show Wd f; rw [← hf]; exact HWD.out _ _
   have HW2 : Hid (Wd g) := by show Wd g; rw [← hg]; exact gotC_wd (HWD.out _)
   have HGS : Hid ((if decide ((i : Int) = a) = true then f else g) = g') := by
    show _ = _
    rw [← hf, ← hg, ← hg']; exact gotC_step a (M.c q) i
   have V7 := HG.out.got
   rw [hg] at V7
   have HV7 := Lib.hid ((V7.kept hk (.inr (.inr rfl))).alloc (.cells (CA f) 64))
   have HV6 := Lib.hid ((HG.out.res.kept hk (.inr (.inl rfl))).alloc (.cells (CA f) 64))
   have HK4 := Lib.hid ((HG.out.kept.trans (hk.mono (fun i hi => .inl hi))).alloc (.cells (CA f) 64))
   have HO4 := Lib.hid ((ho.alloc (.cells (CA f) 64)).weak (Y := plus2 X w.heap.size) (fun i hi => .inl hi))
   have HV9 := Lib.hid (Var.new w3 f 64)
   have hs3 : w.heap.size + 1 < w3.heap.size := (V7.kept hk (.inr (.inr rfl))).lt
   rw [hf]
   clear V7 ho hk HG
   go_wp2_with (with_reducible refine wpList_store_new rfl (.tmp 9) (.tmp 19) rfl rfl f rfl rfl ?_)
   generalize w3.alloc (.cells (CA f) 64) = w4 at *
   refine held_S (S := fun w' => Var w' w3.heap.size f) 8 rfl (by kernel_rfl) HV9.out.drew (fun hHeld => ?_)
   simp only [qA0, qB0, qC0, List.nil_append, List.cons_append]
   refine tk1 0 20 (.int .i64 (i : Int)) rfl (Or.inl ⟨by rfl, fun w' hw => by go_simp⟩) hHeld ?_
   try simp only [Act.put, sA0, sB0, sC0]
   refine tk1 1 21 (.int .u64 (i : Int)) rfl (Or.inl ⟨by rfl, fun w' hw => by go_simp⟩) hHeld ?_
   try simp only [Act.put, sA0, sB0, sC0]
   refine tk1 2 22 (.int .u64 a) rfl (Or.inl ⟨by rfl, fun w' hw => by go_simp⟩) hHeld ?_
   try simp only [Act.put, sA0, sB0, sC0]
   refine take_row 4 (oi := ⟨some 24, _, _, _, _, _⟩) (CA f).toList rfl (by kernel_rfl) (by kernel_rfl) (by kernel_rfl) (fun _ _ _ h => h) (by rfl) _ _ rfl _ _ rfl _ (fun _ h => h.rng) Tryz.underlying64 rfl (infoCellL f) hHeld ?_
   try simp only [Act.put, sA0, sB0, sC0]
   refine via ?R ?both ?rest
   case both =>
    intro hR
    refine wpAnyH_ready (rs := [3, 5]) (by kernel_rfl) (by simp) (AllReadyH.cons rfl (fun K hK => ?_) (AllReadyH.cons (o := ⟨some 25, .load 64 (.tmp 7), _, _, _, _⟩) rfl (fun K hK => ?_) AllReadyH.nil))
    ·go_simp
     refine (equal_any (i : Int) a _ (by omega) (by omega) a0 a1).mono ?_
     rintro e w5 ⟨rfl, rfl⟩
     refine hK.out _ _ hHeld (fun hHeld => ?_)
     clear hK K
     try simp only [Act.put, sA0, sB0, sC0]
     refine one_ready 5 (o := ⟨some 25, .load 64 (.tmp 7), _, _, _, _⟩) rfl (by kernel_rfl) (fun K hK => ?_)
     refine step_load_cell rfl (.tmp 7) rfl (w.heap.size + 1) 0 rfl g HV7.out.drew.rng ?_
     refine hK.out _ _ hHeld (fun hHeld => ?_)
     clear hK K
     try simp only [Act.put, sA0, sB0, sC0]
     exact hR.out
    ·refine step_load_cell rfl (.tmp 7) rfl (w.heap.size + 1) 0 rfl g HV7.out.drew.rng ?_
     refine hK.out _ _ hHeld (fun hHeld => ?_)
     clear hK K
     try simp only [Act.put, sA0, sB0, sC0]
     refine one_ready 3 rfl (by kernel_rfl) (fun K hK => ?_)
     go_simp
     refine (equal_any (i : Int) a _ (by omega) (by omega) a0 a1).mono ?_
     rintro e w5 ⟨rfl, rfl⟩
     refine hK.out _ _ hHeld (fun hHeld => ?_)
     clear hK K
     try simp only [Act.put, sA0, sB0, sC0]
     exact hR.out
   case rest =>
    refine one_ready 6 rfl (by kernel_rfl) (fun K hK => ?_)
    go_simp
    rw [me_mk]
    refine (pickCell_mask (decide ((i : Int) = a)) f g _ HW1.out HW2.out).mono ?_
    rw [HGS.out]
    rintro e w5 ⟨rfl, hx⟩
    have HV7' := Lib.hid (HV7.out.drew.ext hx)
    have HV6' := Lib.hid (HV6.out.drew.ext hx)
    have HK5 := Lib.hid ((HK4.out.drewN 1).trans (Kept.of_none (none_of_ext hx)))
    have HO5 := Lib.hid ((HO4.out.drewN 1).none (none_of_ext hx))
    have hH5 := hHeld.ext hx
    clear HV7 HV6 HK4 HO4 hx
    refine hK.out _ _ hH5 (fun hHeld => ?_)
    clear hK K hH5
    try simp only [Act.put, sA0, sB0, sC0]
    refine one_ready 7 (o := ⟨none, .store 64 (.tmp 7) (.tmp 26), _, _, _, _⟩) rfl (by kernel_rfl) (fun K hK => ?_)
    refine step_store_cell rfl (.tmp 7) (.tmp 26) rfl (w.heap.size + 1) 0 rfl g' rfl HV7'.out.there ?_
    have HE : Hid (GetAt w X p M q a (i + 1) (w5.setCells (w.heap.size + 1) 0 (CA g').toList)) := by
     refine GetAt.mk ?_ ?_ ?_ ?_
     ·exact HO5.out.setCells _ _ (.inr (.inr rfl))
     ·exact HK5.out.setCells _ _ (by omega)
     ·exact HV6'.out.far (by omega) _
     ·rw [hg']; exact HV7'.out.set g'
    have h6 := hHeld.far (c := w.heap.size + 1) (by omega) (CA g').toList
    generalize w5.setCells (w.heap.size + 1) 0 (CA g').toList = w6 at *
    clear HV7' HV6' HK5 HO5
    refine hK.out _ _ h6 (fun hHeld => ?_)
    clear hK K h6 hHeld
    refine wpAnyH_done (by kernel_rfl) ?_ _
    go_wp2_with fail
    go_roundw
    case rel => exact ⟨i + 1, by go_num, by omega, by simpa using HE.out⟩
    case measure => simp [intOf]; omega
  ·obtain rfl : i = s := by omega
   have HR := HG.out.got
   have HE : Hid (OwnPost w X p (M.looked r.toNat i) (.agg (CA (gotC a (M.c r.toNat) i))) (.returned (.agg (CA (gotC a (M.c r.toNat) i)))) (wr.setCells w.heap.size 0 (CA (gotC a (M.c r.toNat) i)).toList)) :=
    ⟨rfl, (HG.out.own.setCells w.heap.size _ (.inr (.inl rfl))).weak (fun i hi => .inl hi), HG.out.kept.setCells _ _ (Nat.le_refl _)⟩
   have HV := Lib.hid (HG.out.res.set (gotC a (M.c r.toNat) i))
   have HV6 := Lib.hid HG.out.res
   have HV7 := Lib.hid HG.out.got
   clear HG HR
   generalize gotC a (M.c r.toNat) i = g at *
   go_wp2_with (first | with_reducible refine wpList_load_cell rfl (.tmp 7) rfl (w.heap.size + 1) 0 rfl g HV7.out.rng ?_ | with_reducible refine wpList_store_cell rfl (.tmp 6) (.tmp 28) rfl w.heap.size 0 rfl g rfl HV6.out.there ?_)
   exact bodyPost_ret (v := .agg (CA g)) (results_one Tryz.results152 rfl HV.out.load) rfl HE.out
end Go.Proofs.YtknnebhjldfkhaaGreat


namespace Go.Proofs.YtknnebhjldfkhaaGreat
set_option maxRecDepth 100000
open Go.RowKit Go.ChangeShapes Go.WideShapes Go.ChangeAt

structure PutAt (w : World) (X : Nat → Prop) (p : Nat) (M : MS) (r b : Nat) (f : Nat → Int) (on : Bool) (i : Nat) (wr : World) : Prop where
 own : Own wr (plus1 X w.heap.size) p (M.anew r b f on i)
 kept : Kept X w wr
 arg : Var wr w.heap.size f
structure PutS (b c : Nat) (f g : Nat → Int) (w' : World) : Prop where
 arg : Var w' b f
 was : Var w' c g
theorem anew_pick (a : Int) (a0 : 0 ≤ a) (f g : Nat → Int) (on : Bool) (i : Nat) : (if i = a.toNat ∧ on = true then f else g) = if (decide ((i : Int) = a) && on) = true then f else g := by
 by_cases h : (i : Int) = a
 ·subst h
  cases on <;> simp
 ·have : ¬ i = a.toNat := by omega
  simp [h, this]
set_option linter.unusedSimpArgs false in
set_option maxRecDepth 100000 in
set_option maxHeartbeats 1000000 in
theorem sc_put_any (X : Nat → Prop) (p : Nat) (M : MS) (r a : Int) (f : Nat → Int) (on : Bool) (w : World) (h : Own w X p M) (hwd : M.wd) (hf : Wd f) (a0 : 0 ≤ a) (a1 : a ≤ 18446744073709551615) (hl : M.es.length + M.size r * 2 < 1000000000) :
  Calls Tryz.prog 153 #[.pointer (some ⟨p, 0, none⟩), .int .i64 r, .int .u64 a, .agg (CA f), .int .u64 (msk on)] w (OwnPost w X p (M.anew r.toNat a.toNat f on (M.size r)) (.tuple #[])) := by
 have HO := Lib.hid h
 have HWD := Lib.hid hwd
 have HF := Lib.hid hf
 obtain ⟨s, hs⟩ : ∃ s, M.size r = s := ⟨_, rfl⟩
 rw [hs] at hl ⊢
 have HS := Lib.hid hs
 have hsl : s < 1000000000 := by omega
 have HL := Lib.hid hl
 have R0 : Hid (PutAt w X p M r.toNat a.toNat f on 0 (w.alloc (.cells (CA f) 64))) := by
  refine PutAt.mk ?_ ?_ ?_
  ·rw [anew_zero]; exact h.one _
  ·exact (Kept.refl X w).alloc _
  ·exact Var.new w _ _
 have O0 := Lib.hid (h.one (.cells (CA f) 64))
 have HM := Lib.hid (and_mk)
 obtain ⟨m, hm⟩ : ∃ m, msk on = m := ⟨_, rfl⟩
 rw [hm]
 have HMM := Lib.hid hm
 clear h hwd hs hl hf hm
 go_enter Tryz.func153, Tryz.ntmps153
 go_wp2_with fail
 refine (own_size _ p M _ r O0.out).mono ?_
 rintro e w' ⟨rfl, rfl⟩
 rw [HS.out]
 clear O0
 go_wp2_with fail
 go_loopw [15] (fun v wr => ∃ i : Nat, v = .int .i64 i ∧ i ≤ s ∧ PutAt w X p M r.toNat a.toNat f on i wr) (fun v _ => s - (intOf v).toNat)
 case atStart => exact ⟨0, rfl, Nat.zero_le _, R0.out⟩
 case round =>
  obtain ⟨i, rfl, hi, hG⟩ := hrel
  have HG := Lib.hid hG
  clear hG R0
  by_cases hlt : i < s
  ·obtain ⟨q, rfl, hq, hsz⟩ := MS.size_pos (M := M) (r := r) (by rw [HS.out]; omega)
   rw [HS.out] at hsz
   simp only [Int.toNat_natCast] at HG
   have HST := Lib.hid (anew_step M q a.toNat f on i hq (by omega))
   rw [anew_pick a a0] at HST
   have HCL := Lib.hid (anew_cell M q a.toNat f on i hq (by omega))
   have hel : (M.anew q a.toNat f on i).es.length + 1 < 1000000000 := by have := HL.out; rw [anew_len]; omega
   have HEL := Lib.hid hel
   have hu : IntKind.u64.wrap (i : Int) = (i : Int) := by rw [IntKind.wrap_u64]; omega
   clear hel hq hsz
   obtain ⟨N0, hN0⟩ : ∃ N, M.anew q a.toNat f on i = N := ⟨_, rfl⟩
   have HO0 := Lib.hid HG.out.own
   rw [hN0] at HST HCL HEL HO0
   go_wp2_with fail
   refine (own_read _ p N0 _ (q : Int) (i : Int) HO0.out (by have := HEL.out; omega)).mono ?_
   rw [HCL.out]
   obtain ⟨N1, hN1⟩ : ∃ N, N0.read (q : Int) (i : Int) = N := ⟨_, rfl⟩
   have hl1 : N1.es.length < 1000000000 := by rw [← hN1]; have h1 := len_read N0 (q : Int) (i : Int); have h2 := HEL.out; omega
   have HL1 := Lib.hid hl1
   rw [hN1] at HST ⊢
   rintro e w3 ⟨rfl, ho, hk⟩
   obtain ⟨g, hg⟩ : ∃ g, M.c q i = g := ⟨_, rfl⟩
   have HW1 : Hid (Wd g) := by show Wd g; rw [← hg]; exact HWD.out _ _
   rw [hg] at HST
   have HX4 : Hid (PutS w.heap.size w3.heap.size f g (w3.alloc (.cells (CA g) 64))) := ⟨(HG.out.arg.kept hk (.inr rfl)).alloc _, Var.new w3 g _⟩
   have HK4 := Lib.hid ((HG.out.kept.trans (hk.mono (fun i hi => .inl hi))).alloc (.cells (CA g) 64))
   have HO4 := Lib.hid (ho.alloc (.cells (CA g) 64))
   rw [hg]
   clear ho hk HG HO0 hl1 hN1
   go_wp2_with (with_reducible refine wpList_store_new rfl (.tmp 11) (.tmp 21) rfl rfl g rfl rfl ?_)
   generalize w3.alloc (.cells (CA g) 64) = w4 at *
   refine held_S (S := PutS w.heap.size w3.heap.size f g) 13 rfl (by kernel_rfl) ⟨HX4.out.arg.drew, HX4.out.was.drew⟩ (fun hHeld => ?_)
   simp only [qA0, qB0, qC0, List.nil_append, List.cons_append]
   refine tk1 0 22 (.pointer (some ⟨p, 0, none⟩)) rfl (Or.inl ⟨by rfl, fun w' hw => by go_simp⟩) hHeld ?_
   try simp only [Act.put, sA0, sB0, sC0]
   refine tk1 1 23 (.int .i64 (q : Int)) rfl (Or.inl ⟨by rfl, fun w' hw => by go_simp⟩) hHeld ?_
   try simp only [Act.put, sA0, sB0, sC0]
   refine tk1 2 24 (.int .i64 (i : Int)) rfl (Or.inl ⟨by rfl, fun w' hw => by go_simp⟩) hHeld ?_
   try simp only [Act.put, sA0, sB0, sC0]
   refine tk1 3 25 (.int .i64 (i : Int)) rfl (Or.inl ⟨by rfl, fun w' hw => by go_simp⟩) hHeld ?_
   try simp only [Act.put, sA0, sB0, sC0]
   refine tk1 4 26 (.int .u64 (i : Int)) rfl (Or.inl ⟨by rfl, fun w' hw => by go_simp⟩) hHeld ?_
   try simp only [Act.put, sA0, sB0, sC0]
   refine tk1 5 27 (.int .u64 a) rfl (Or.inl ⟨by rfl, fun w' hw => by go_simp⟩) hHeld ?_
   try simp only [Act.put, sA0, sB0, sC0]
   refine tk1 7 29 (.int .u64 m) rfl (Or.inl ⟨by rfl, fun w' hw => by go_simp⟩) hHeld ?_
   try simp only [Act.put, sA0, sB0, sC0]
   refine take_row 9 (oi := ⟨some 31, _, _, _, _, _⟩) (CA f).toList rfl (by kernel_rfl) (by kernel_rfl) (by kernel_rfl) (fun _ _ _ h => h) (by rfl) _ _ rfl _ _ rfl _ (fun _ h => h.arg.rng) Tryz.underlying64 rfl (infoCellL f) hHeld ?_
   try simp only [Act.put, sA0, sB0, sC0]
   refine take_row 10 (oi := ⟨some 32, _, _, _, _, _⟩) (CA g).toList rfl (by kernel_rfl) (by kernel_rfl) (by kernel_rfl) (fun _ _ _ h => h) (by rfl) _ _ rfl _ _ rfl _ (fun _ h => h.was.rng) Tryz.underlying64 rfl (infoCellL g) hHeld ?_
   try simp only [Act.put, sA0, sB0, sC0]
   refine one_ready 6 rfl (by kernel_rfl) (fun K hK => ?_)
   go_simp
   refine (equal_any (i : Int) a _ (by omega) (by omega) a0 a1).mono ?_
   rintro e w5 ⟨rfl, rfl⟩
   rw [me_mk]
   refine hK.out _ _ hHeld (fun hHeld => ?_)
   clear hK K
   try simp only [Act.put, sA0, sB0, sC0]
   have hb := HM.out (decide ((i : Int) = a)) on
   rw [HMM.out] at hb
   refine tk1 8 30 (.int .u64 (msk (decide ((i : Int) = a) && on))) rfl (Or.inl ⟨by rfl, fun w' hw => by go_simp⟩) hHeld ?_
   try simp only [Act.put, sA0, sB0, sC0]
   refine one_ready 11 rfl (by kernel_rfl) (fun K hK => ?_)
   go_simp
   refine (pickCell_mask (decide ((i : Int) = a) && on) f g _ HF.out HW1.out).mono ?_
   obtain ⟨g', hg'⟩ : ∃ g', (if (decide ((i : Int) = a) && on) = true then f else g) = g' := ⟨_, rfl⟩
   rw [hg'] at HST ⊢
   rintro e w5 ⟨rfl, hx⟩
   have HK5 := Lib.hid ((HK4.out.drewN 1).trans (Kept.of_none (none_of_ext hx)))
   have HO5 := Lib.hid ((HO4.out.drewN 1).none (none_of_ext hx))
   have hH5 : PutS w.heap.size w3.heap.size f g w5 := ⟨hHeld.arg.ext hx, hHeld.was.ext hx⟩
   clear HK4 HO4 hx hg'
   refine hK.out _ _ hH5 (fun hHeld => ?_)
   clear hK K hH5
   try simp only [Act.put, sA0, sB0, sC0]
   refine one_ready 12 rfl (by kernel_rfl) (fun K hK => ?_)
   go_simp
   refine (own_write _ p N1 _ (q : Int) (i : Int) g' HO5.out HL1.out).mono ?_
   rw [HST.out]
   rintro e w6 ⟨rfl, ho, hk⟩
   have HE : Hid (PutAt w X p M q a.toNat f on (i + 1) w6) := by
    refine PutAt.mk ?_ ?_ ?_
    ·exact ho.weak (fun i hi => .inl hi)
    ·exact HK5.out.trans (hk.mono (fun i hi => .inl (.inl hi)))
    ·exact hHeld.arg.kept hk (.inl (.inr rfl))
   have h6 : PutS w.heap.size w3.heap.size f g w6 := ⟨hHeld.arg.kept hk (.inl (.inr rfl)), hHeld.was.kept hk (.inr rfl)⟩
   clear HK5 HO5 ho hk
   refine hK.out _ _ h6 (fun hHeld => ?_)
   clear hK K h6 hHeld
   refine wpAnyH_done (by kernel_rfl) ?_ _
   go_wp2_with fail
   go_roundw
   case rel => exact ⟨i + 1, by go_num, by omega, by simpa using HE.out⟩
   case measure => simp [intOf]; omega
  ·obtain rfl : i = s := by omega
   have HE : Hid (OwnPost w X p (M.anew r.toNat a.toNat f on i) (.tuple #[]) (.returned (.tuple #[])) wr) := ⟨rfl, HG.out.own.weak (fun i hi => .inl hi), HG.out.kept⟩
   clear HG
   go_wp2_with fail
   go_end0
   exact HE.out
end Go.Proofs.YtknnebhjldfkhaaGreat

