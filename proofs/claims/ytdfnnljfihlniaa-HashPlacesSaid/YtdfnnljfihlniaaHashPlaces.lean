/- HashPlaces: for every input the law returns true, and of what was in memory nothing changes. Conditions: the slice's cells hold words; the key is a word of 64 bits, the size an int. -/
import Derived.Test.YtdfnnljfihlniaaHashShown
import Derived.Deep.Cut
namespace Go.Proofs.Ytdfnnljfihlniaa
open Go.RowKit Go.Shelf Go.ChangeShapes Go.WideShapes Go.ChangeAt

set_option maxRecDepth 100000 in
set_option maxHeartbeats 2000000 in
theorem places_law (A : Option Addr) (n cap : Nat) (z : Nat → Int) (t k s : Int) (w : World) (hn : n ≤ 9223372036854775807) (hz : Nums .u64 w w.heap.size A n z) (hk : (Lit.int .u64 k).wf = true) (hs : (Lit.int .i64 s).wf = true) :
    Calls Try.prog 3 #[.slice A n cap, .int .i64 t, .int .u64 k, .int .i64 s] w fun e w' => e = .returned (.bool true) ∧ Below w.heap.size w w' := by
  obtain ⟨k0, k1⟩ := u64_rng hk
  obtain ⟨s0, s1⟩ := i64_rng hs
  have HZ := Lib.hid hz
  clear hz
  go_enter Try.func3, Try.ntmps3
  go_wp2_with fail
  refine (shown_any _).mono ?_
  rintro e w1 ⟨rfl, hb1⟩
  have HB := Lib.hid hb1
  clear hb1
  go_wp2_with fail
  refine (of_any A n cap z _ hn ((HZ.out.below HB.out).more HB.out.size)).mono ?_
  rintro e w2 ⟨rfl, hb2⟩
  have HB2 := Lib.hid (HB.out.trans (hb2.mono HB.out.size))
  obtain ⟨f, hf⟩ : ∃ f, hW n z = f := ⟨_, rfl⟩
  rw [hf]
  clear hb2 HB
  unfold H4
  go_upto_region 3 with fail
  generalize hw3 : World.alloc w2 _ = w3
  obtain ⟨p, hp⟩ : ∃ p, w2.heap.size = p := ⟨_, rfl⟩
  have C3 : Hid (Box w3 p 26 (H4 f)) := Lib.hid (by rw [← hw3, ← hp]; exact Box.new _ _ _)
  have HB3 := Lib.hid (show Below w.heap.size w w3 by rw [← hw3]; exact HB2.out.alloc HB2.out.size _)
  rw [hp]
  clear HB2 hw3 hp
  have c0 := fun g : Gr w3 => Gr.cell (show w3.cell? ⟨p, 0, none⟩ = some (.int .u64 (f 0)) from C3.out.cell 0) g
  have c1 := fun g : Gr w3 => Gr.cell (show w3.cell? ⟨p, 1, none⟩ = some (.int .u64 (f 1)) from C3.out.cell 1) g
  have c2 := fun g : Gr w3 => Gr.cell (show w3.cell? ⟨p, 2, none⟩ = some (.int .u64 (f 2)) from C3.out.cell 2) g
  have c3 := fun g : Gr w3 => Gr.cell (show w3.cell? ⟨p, 3, none⟩ = some (.int .u64 (f 3)) from C3.out.cell 3) g
  have hE := fun W => eql_rhash f W
  have AS := Lib.hid (fun W => as_lit f W)
  have RO := Lib.hid (fun (g : Gr w3) => rof_lit A n cap z f g.w' hf (Gr.nums ((HZ.out.below HB3.out).more HB3.out.size) g))
  have MX := Lib.hid (fun W => mix_any k W)
  have RM := Lib.hid (fun W => rmix_any k W k0 k1)
  have AT := Lib.hid (fun W => at_lit f t k s W s0 s1)
  have RT := Lib.hid (fun W => rat_lit f t k s W)
  generalize atI f t k s = x at *
  generalize mx k = m at *
  refine wp_region_grow (by kernel_rfl) (by kernel_rfl) ?_
  repeat (go_big_quiet_step (first | (go_at_call 10; exact Gr.hblw (AS.out _)) | (go_at_call 11; exact Gr.hblw (RO.out _)) | (go_at_call 12; exact Gr.hsame (MX.out _)) | (go_at_call 13; exact Gr.hsame (RM.out _)) | (go_at_call 14; exact Gr.hblw (AT.out _)) | (go_at_call 15; exact Gr.hblw (RT.out _))))
  refine wpQuiet_nil ?_
  intro w12 hw12
  obtain ⟨G, hG⟩ := hw12
  subst hG
  go_wp2_with fail
  go_ret
  exact ⟨rfl, HB3.out.trans (G.ok.none.mono HB3.out.size)⟩
end Go.Proofs.Ytdfnnljfihlniaa
