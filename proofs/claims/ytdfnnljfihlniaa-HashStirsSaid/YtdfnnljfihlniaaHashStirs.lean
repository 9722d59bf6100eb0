/- HashStirs: for every input the law returns true, and of what was in memory nothing changes. Conditions: both are words of 64 bits. -/
import Derived.Test.YtdfnnljfihlniaaHashShown
namespace Go.Proofs.Ytdfnnljfihlniaa
open Go.RowKit Go.Shelf Go.ChangeShapes Go.WideShapes Go.ChangeAt

theorem stirs_law (a b : Int) (w : World) (ha : (Lit.int .u64 a).wf = true) (hb : (Lit.int .u64 b).wf = true) :
    Calls Try.prog 5 #[.int .u64 a, .int .u64 b] w fun e w' => e = .returned (.bool true) ∧ Below w.heap.size w w' := by
  obtain ⟨a0, a1⟩ := u64_rng ha
  obtain ⟨b0, b1⟩ := u64_rng hb
  have HU := Lib.hid (un_mxI a a0 a1)
  have HI := Lib.hid (mx_iff a b a0 a1 b0 b1)
  have hm := mx_rng a
  go_enter Try.func5, Try.ntmps5
  go_wp2_with fail
  refine (shown_any _).mono ?_
  rintro e w1 ⟨rfl, hb1⟩
  have HB := Lib.hid hb1
  clear hb1
  go_wp2_with fail
  refine (mix_any a _).mono ?_
  rintro e w2 ⟨rfl, rfl⟩
  unfold un at HU
  obtain ⟨x, hx⟩ : ∃ x, fo (mx a) 4294967296 = x := ⟨_, rfl⟩
  rw [hx] at HU
  have e0 : bits .xor .u64 (mx a) (mx a / 4294967296) = x := hx
  obtain ⟨y, hy⟩ : ∃ y, IntKind.u64.wrap (x * 17428512612931826493) = y := ⟨_, rfl⟩
  have hyr := wrap_rng (x * 17428512612931826493)
  rw [hy] at HU hyr
  obtain ⟨v, hv⟩ : ∃ v, fo y 536870912 = v := ⟨_, rfl⟩
  rw [hv] at HU
  have e2 : bits .xor .u64 y (y / 536870912) = v := hv
  have HX := HU.out
  have HI2 := Lib.hid (show ∀ z, mx b = z → (mx a == z) = (a == b) from fun z hz => by rw [← hz]; exact HI.out)
  clear HI hx hv HU
  obtain ⟨m, hma⟩ : ∃ m, mx a = m := ⟨_, rfl⟩
  rw [hma] at HI2 e0 hm ⊢
  have HM := Lib.hid hma
  clear hma
  go_wp2_with fail
  refine (mix_any a _).mono ?_
  rintro e w2 ⟨rfl, rfl⟩
  rw [HM.out]
  go_wp2_with fail
  refine (mix_any b _).mono ?_
  rintro e w2 ⟨rfl, rfl⟩
  obtain ⟨m2, hmb⟩ : ∃ m, mx b = m := ⟨_, rfl⟩
  have HE := HI2.out m2 hmb
  rw [hmb]
  clear hmb
  go_wp2_with fail
  go_ret
  exact ⟨rfl, HB.out⟩
end Go.Proofs.Ytdfnnljfihlniaa
