/- Two tapes of the same words side by side: what a step on the one makes of both. -/
import Derived.Test.YtmdlankeflnpgaaTapeShown
namespace Go.Proofs.Ytmdlankeflnpgaa
open Go.RowKit Go.ChangeShapes Go.WideShapes Go.ChangeAt

/-- One tape of the call's own, made behind W. -/
structure One (W wr : World) (p g n : Nat) (z : Nat → Int) (u : Nat) : Prop where
  tp : Tp wr p g n z u
  p0 : W.heap.size ≤ p
  g0 : W.heap.size ≤ g
  below : Below W.heap.size W wr
section
variable {W wr w1 : World} {p g n : Nat} {z : Nat → Int} {u : Nat}
theorem One.of_new {w0 : World} (hb : Below W.heap.size W w0) (h : ∃ p g, (Ending.returned (.pointer (some ⟨p, 0, none⟩)) = Ending.returned (.pointer (some ⟨p, 0, none⟩))) ∧ w0.heap.size ≤ p ∧ w0.heap.size ≤ g ∧ Only nobody w0 wr ∧ Tp wr p g n z 0) : ∃ p g, One W wr p g n z 0 := by
  obtain ⟨p, g, _, hp, hg, ho, ht⟩ := h
  have := hb.size
  exact ⟨p, g, ht, by omega, by omega, hb.trans (ho.none.mono this)⟩
theorem One.new {w0 : World} (hb : Below W.heap.size W w0) (hp : w0.heap.size ≤ p) (hg : w0.heap.size ≤ g) (ho : Only nobody w0 wr) (ht : Tp wr p g n z 0) : One W wr p g n z 0 :=
  have := hb.size
  ⟨ht, by omega, by omega, hb.trans (ho.none.mono this)⟩
theorem One.next (h : One W wr p g n z u) (ho : Only (just p) wr w1) {u' : Nat} (ht : Tp w1 p g n z u') : One W w1 p g n z u' :=
  ⟨ht, h.p0, h.g0, below_only h.below ho h.below.size (fun i hi => just_ne (by have := h.p0; omega))⟩
theorem One.drewN (h : One W wr p g n z u) (k : Nat) : One W (wr.drewN k) p g n z u := ⟨h.tp.drewN k, h.p0, h.g0, below_drewN h.below k⟩
end

/-- Two such tapes. -/
structure Two (W wr : World) (p1 g1 p2 g2 n : Nat) (z : Nat → Int) (u1 u2 : Nat) : Prop where
  a : One W wr p1 g1 n z u1
  b : Tp wr p2 g2 n z u2
  p0 : W.heap.size ≤ p2
  ne : p1 ≠ p2
  ne1 : g1 ≠ p2
  ne2 : g2 ≠ p1
section
variable {W wr w1 : World} {p1 g1 p2 g2 n : Nat} {z : Nat → Int} {u1 u2 : Nat}
theorem Two.new (h : One W wr p1 g1 n z u1) (hp : wr.heap.size ≤ p2) (hg : wr.heap.size ≤ g2) (ho : Only nobody wr w1) (ht : Tp w1 p2 g2 n z 0) : Two W w1 p1 g1 p2 g2 n z u1 0 := by
  have := h.below.size
  have h1 := h.tp.box.lt
  have h2 := h.tp.row.lt
  exact ⟨⟨h.tp.only ho (not_nobody _) (not_nobody _), h.p0, h.g0, h.below.trans (ho.none.mono this)⟩, ht, by omega, by omega, by omega, by omega⟩
theorem Two.one (h : Two W wr p1 g1 p2 g2 n z u1 u2) (ho : Only (just p1) wr w1) {u' : Nat} (ht : Tp w1 p1 g1 n z u') : Two W w1 p1 g1 p2 g2 n z u' u2 :=
  ⟨h.a.next ho ht, h.b.only ho (just_ne (fun e => h.ne e.symm)) (just_ne h.ne2), h.p0, h.ne, h.ne1, h.ne2⟩
theorem Two.two (h : Two W wr p1 g1 p2 g2 n z u1 u2) (ho : Only (just p2) wr w1) {u' : Nat} (ht : Tp w1 p2 g2 n z u') : Two W w1 p1 g1 p2 g2 n z u1 u' :=
  ⟨⟨h.a.tp.only ho (just_ne h.ne) (just_ne h.ne1), h.a.p0, h.a.g0, below_only h.a.below ho h.a.below.size (fun i hi => just_ne (by have := h.p0; omega))⟩, ht, h.p0, h.ne, h.ne1, h.ne2⟩
theorem Two.far {S : Nat → Prop} (h : Two W wr p1 g1 p2 g2 n z u1 u2) (ho : Only S wr w1) (h1 : ¬ S p1) (h2 : ¬ S g1) (h3 : ¬ S p2) (h4 : ¬ S g2) (hs : ∀ i, i < W.heap.size → ¬ S i) : Two W w1 p1 g1 p2 g2 n z u1 u2 :=
  ⟨⟨h.a.tp.only ho h1 h2, h.a.p0, h.a.g0, below_only h.a.below ho h.a.below.size hs⟩, h.b.only ho h3 h4, h.p0, h.ne, h.ne1, h.ne2⟩
theorem Two.drewN (h : Two W wr p1 g1 p2 g2 n z u1 u2) (k : Nat) : Two W (wr.drewN k) p1 g1 p2 g2 n z u1 u2 := ⟨h.a.drewN k, h.b.drewN k, h.p0, h.ne, h.ne1, h.ne2⟩
end

/-- Take, whatever number is asked for. -/
theorem take_int (p g n : Nat) (z : Nat → Int) (u : Nat) (m : Int) (w : World) (hm : m ≤ 1000) (hu : u < 4611686018427387904) (h : Tp w p g n z u) :
    Calls Try.prog 11 #[.pointer (some ⟨p, 0, none⟩), .int .i64 m] w (TakePost w p g n z u m.toNat) := by
  by_cases h1 : m < 1
  · have e : m.toNat = 0 := by omega
    rw [e]; exact take_none p g n z u m w h1 hu h
  · have e : m = (m.toNat : Int) := by omega
    have := take_any p g n z u m.toNat w (by omega) hu h
    rwa [← e] at this
theorem told_some {n : Nat} {z : Nat → Int} {u : Nat} (h : u < n) : told n z u = z u := if_pos h
theorem told_none {n : Nat} {z : Nat → Int} {u : Nat} (h : ¬ u < n) : told n z u = 0 := if_neg h
end Go.Proofs.Ytmdlankeflnpgaa
