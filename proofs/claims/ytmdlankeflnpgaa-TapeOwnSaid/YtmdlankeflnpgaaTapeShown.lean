/- The second chapter's example, as the law texts ask it first: it returns true; nothing that was there turns. -/
import Derived.Test.YtmdlankeflnpgaaTake
namespace Go.Proofs.Ytmdlankeflnpgaa
open Go.RowKit Go.ChangeShapes Go.WideShapes Go.ChangeAt

def Yes (w : World) (e : Ending) (w' : World) : Prop := e = .returned (.bool true) ∧ Below w.heap.size w w'

set_option maxHeartbeats 1000000 in
theorem shown_any (w : World) : Calls Try.prog 7 #[] w (Yes w) := by
  go_enter Try.func7, Try.ntmps7
  go_wp2_with fail
  refine (new_any (some ⟨w.heap.size, 0, none⟩) 1 1 (fun _ => 7) _ (by omega) ?_).mono ?_
  · exact fun _ => ⟨_, 0, rfl, by simp, fun j hj => by obtain rfl : j = 0 := by omega
                                                       simp⟩
  rintro e w1 ⟨p, g, rfl, hp, hg, ho, ht⟩
  have b1 := Lib.hid ((Only.refl nobody w).alloc (.cells #[.int .u64 7] 30) |>.trans ho)
  have hp1 : w.heap.size ≤ p := by simp at hp; omega
  have T1 := Lib.hid ht
  clear ho ht hp hg
  go_wp2_with fail
  refine (next_any p g 1 (fun _ => 7) 0 _ (by omega) T1.out).mono ?_
  rintro e w2 ⟨rfl, ho, hs, ht⟩
  have b2 := Lib.hid (b1.out.then ho (fun i hi => .inr (by rw [hi]; exact hp1)))
  have T2 := Lib.hid ht
  clear ho hs ht
  go_wp2_with fail
  refine (short_any p g 1 (fun _ => 7) 1 _ T2.out).mono ?_
  rintro e w3 ⟨rfl, k3, rfl⟩
  go_wp2_with fail
  refine (next_any p g 1 (fun _ => 7) 1 _ (by omega) (T2.out.drewN k3)).mono ?_
  rintro e w4 ⟨rfl, ho, hs, ht⟩
  have b4 := Lib.hid ((b2.out.drewN k3).then ho (fun i hi => .inr (by rw [hi]; exact hp1)))
  have T4 := Lib.hid ht
  clear ho hs ht
  have e0 : told 1 (fun _ => 7) 0 = 7 := rfl
  have e1 : told 1 (fun _ => 7) 1 = 0 := rfl
  go_wp2_with fail
  refine (short_any p g 1 (fun _ => 7) 2 _ T4.out).mono ?_
  rintro e w5 ⟨rfl, k5, rfl⟩
  go_wp2
  go_ret
  exact ⟨rfl, (b4.out.drewN k5).none⟩
end Go.Proofs.Ytmdlankeflnpgaa
