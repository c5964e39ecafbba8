/- same: of two lists that are the same. -/
import Derived.Test.YthgojidgaeimnaaV6
namespace Go.Proofs.Ythgojidgaeimnaa
open Go.RowKit Go.Shelf

theorem pairs_at : ∀ (ps : List (ByteArray × ByteArray)) (j r : Nat) (hj : j < ps.length), r < 2 → (ps.flatMap pairCells)[j * 2 + r]? = (pairCells ps[j])[r]?
  | [], j, r, hj, _ => by simp at hj
  | p :: ps, 0, r, _, hr => by
    have : r < (pairCells p).length := by simp [pairCells]; omega
    simp [List.getElem?_append_left this]
  | p :: ps, j + 1, r, hj, hr => by
    have ih := pairs_at ps j r (by simpa using hj) hr
    have e : (j + 1) * 2 + r = (pairCells p).length + (j * 2 + r) := by simp [pairCells]; omega
    rw [List.flatMap_cons, e, List.getElem?_append_right (by omega), Nat.add_sub_cancel_left, ih]
    simp

theorem pairs_length (ps : List (ByteArray × ByteArray)) : (ps.flatMap pairCells).length = ps.length * 2 := by
  induction ps with
  | nil => rfl
  | cons p ps ih => simp [pairCells, ih]; omega

theorem Row.pair {w : World} {g cap : Nat} {ps : List (ByteArray × ByteArray)} (h : Row w 52 2 (.slice (some ⟨g, 0, none⟩) ps.length cap) ps.length (ps.flatMap pairCells)) (j : Nat) (hj : j < ps.length) :
    w.cell? ⟨g, j * 2, none⟩ = some (.string ps[j].1) ∧ w.cell? ⟨g, j * 2 + 1, none⟩ = some (.string ps[j].2) := by
  have h0 := h.cellAt (j * 2) (by omega)
  have h1 := h.cellAt (j * 2 + 1) (by omega)
  have p0 := pairs_at ps j 0 hj (by omega)
  have p1 := pairs_at ps j 1 hj (by omega)
  rw [Nat.add_zero] at p0
  exact ⟨by rw [h0, p0]; rfl, by rw [h1, p1]; rfl⟩

set_option maxRecDepth 100000 in
set_option maxHeartbeats 800000 in
theorem same_eq (va vb : Value) (ps : List (ByteArray × ByteArray)) (w : World) (ha : Row w 52 2 va ps.length (ps.flatMap pairCells)) (hb : Row w 52 2 vb ps.length (ps.flatMap pairCells)) :
    Calls Try.prog 18 #[va, vb] w fun e w' => e = .returned (.bool true) ∧ Keeps (fun _ => False) w w' := by
  obtain ⟨oa, ca, rfl, hm, sa⟩ := ha.form
  obtain ⟨ob, cb, rfl, -, sb⟩ := hb.form
  have HA := hid ha
  have HB := hid hb
  have SA := hid sa
  have SB := hid sb
  unfold maxLen at hm
  clear ha hb sa sb
  go_enter Try.func18, Try.ntmps18
  go_wp2_with fail
  go_loopw [5] (fun i wr => ∃ k : Nat, k ≤ ps.length ∧ i = .int .i64 k ∧ Keeps (fun _ => False) w wr) (fun i _ => ps.length - (intOf i).toNat)
  case atStart => exact ⟨0, Nat.zero_le _, rfl, Keeps.refl _ _⟩
  case round =>
    obtain ⟨k, hk, rfl, hkr⟩ := hrel
    by_cases hlt : k < ps.length
    · obtain ⟨ga, rfl⟩ := SA.out (by omega)
      obtain ⟨gb, rfl⟩ := SB.out (by omega)
      obtain ⟨a0, a1⟩ := (HA.out.kept hkr (fun _ _ h => h)).pair k hlt
      obtain ⟨b0, b1⟩ := (HB.out.kept hkr (fun _ _ h => h)).pair k hlt
      generalize ps[k].1 = x at a0 b0
      generalize ps[k].2 = y at a1 b1
      have HKR := hid hkr
      clear hkr SA SB HA HB
      go_wp2_with fail
      go_region
      go_wp2
      exact ⟨⟨k + 1, by omega, by go_num, HKR.out.dr⟩, by simp only [intOf]; omega⟩
    · go_wp2
      go_ret
      exact ⟨rfl, hkr⟩

end Go.Proofs.Ythgojidgaeimnaa
