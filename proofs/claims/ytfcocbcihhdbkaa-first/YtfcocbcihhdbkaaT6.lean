/- begun: a new store, once a work has done what it must in another. -/
import Derived.Test.YtfcocbcihhdbkaaT5
namespace Go.Proofs.Ytfcocbcihhdbkaa
open Go.RowKit Go.Shelf

theorem storeAt_zero {w : World} {b : Nat} (h : w.heap[b]? = some (.cells (topCells (Rep.zero b)) 66 (0, 0))) : StoreAt w (Rep.zero b) :=
  ⟨h, ⟨rfl, fun p hp => (by cases hp), rfl, rfl⟩, ⟨Row.nil _ _ _, rfl, fun p hp => (by cases hp)⟩, by simp [Rep.fp, Rep.fpWorks, Rep.fpPast, Rep.zero, pcOf, Value.ownBlock]⟩

theorem sat_zero {K : List ByteArray} {O : Nat → Prop} {w : World} {b : Nat} (h : StoreAt w (Rep.zero b)) (hb : ¬ O b) : SAt K O w b Abs.zero :=
  ⟨Rep.zero b, ⟨h, good_zero _, tied_zero _, ⟨rfl, rfl⟩, fun h => absurd h (by simp [Rep.zero]), fun k hk => (by cases hk), fun p hp => (by cases hp)⟩, rfl, rfl, fun k hk => by
    have e : k = b := by simpa [Rep.fp, Rep.fpWorks, Rep.fpPast, Rep.zero, pcOf, Value.ownBlock] using hk
    rw [e]; exact hb⟩

def kB : ByteArray := { data := #[107] }
def vB : ByteArray := { data := #[118] }

theorem begun_get : (Abs.zero.next kB vB false).opened.get 2 kB = (vB, 0) := by decide +kernel

/-- what the store of begun does -/
theorem begun_calls {w : World} {O : Nat → Prop} {b : Nat} (h : SAt [kB] O w b Abs.zero) (hO : ∀ k, O k → k < w.heap.size) :
    Calls Try.prog 7 #[.pointer (some ⟨b, 0, none⟩)] w fun e w1 => e = .returned (.tuple #[.int .i64 1, .int .i64 0]) ∧ Keeps (fun k => ¬ O k) w w1 ∧
      Calls Try.prog 10 #[.pointer (some ⟨b, 0, none⟩), .int .i64 1, .string kB, .string vB] w1 fun e w2 => e = .returned (.int .i64 0) ∧ Keeps (fun k => ¬ O k) w w2 ∧
      Calls Try.prog 13 #[.pointer (some ⟨b, 0, none⟩), .int .i64 1] w2 fun e w3 => e = .returned (.tuple #[.int .i64 1, .int .i64 0]) ∧ Keeps (fun k => ¬ O k) w w3 ∧
      Calls Try.prog 7 #[.pointer (some ⟨b, 0, none⟩)] w3 fun e w4 => e = .returned (.tuple #[.int .i64 2, .int .i64 0]) ∧ Keeps (fun k => ¬ O k) w w4 ∧
      Calls Try.prog 14 #[.pointer (some ⟨b, 0, none⟩), .int .i64 2, .string kB] w4 fun e w5 => e = .returned (.tuple #[.string { data := #[118] }, .int .i64 0]) ∧ Keeps (fun k => ¬ O k) w w5 := by
  have hs := h.sound
  refine (begin_s h hO (by simp [Abs.zero]) (by simp [Abs.zero])).mono ?_
  rintro e w1 ⟨rfl, s1, k1⟩
  refine ⟨rfl, k1, ?_⟩
  refine (put_s s1 (by simp) (look_snoc (Abs.zero.now, []) hs.fresh) (List.mem_singleton.2 rfl) (by decide +kernel) (by decide +kernel)).mono ?_
  rintro e w2 ⟨rfl, s2, k2⟩
  have k2' : Keeps (fun k => ¬ O k) w w2 := k1.tr k2 (fun _ h => h)
  have z2 := k2'.size
  refine ⟨rfl, k2', ?_⟩
  refine (commit_next s2 (by simp) hs (fun k hk => by have := hO k hk; omega) (by simp [Abs.zero])).mono ?_
  rintro e w3 ⟨rfl, s3, k3⟩
  have k3' : Keeps (fun k => ¬ O k) w w3 := k2'.tr k3 (fun _ h => h)
  have z3 := k3'.size
  refine ⟨rfl, k3', ?_⟩
  refine (begin_s s3 (fun k hk => by have := hO k hk; omega) (by simp [Abs.next, Abs.zero]) (by simp [Abs.next, Abs.zero])).mono ?_
  rintro e w4 ⟨rfl, s4, k4⟩
  have k4' : Keeps (fun k => ¬ O k) w w4 := k3'.tr k4 (fun _ h => h)
  refine ⟨rfl, k4', ?_⟩
  refine (get_s (n := 2) (key := kB) s4 (by decide +kernel)).mono ?_
  rintro e w5 ⟨rfl, s5, k5⟩
  rw [begun_get]
  exact ⟨rfl, k4'.tr k5 (fun _ h => h.elim)⟩

set_option maxRecDepth 100000 in
set_option maxHeartbeats 800000 in
theorem begun_any (w : World) :
    Calls Try.prog 5 #[] w fun e w' => ∃ b, e = .returned (.pointer (some ⟨b, 0, none⟩)) ∧ w.heap.size ≤ b ∧ SAt K12 (fun k => k < w.heap.size) w' b Abs.zero ∧ Keeps (fun _ => False) w w' := by
  have HN := hid (fun W => new_any W)
  go_enter Try.func5, Try.ntmps5
  go_wp2_with fail
  refine (HN.out _).mono ?_
  rintro e w1 ⟨rfl, t1, k1⟩
  have T1 := hid t1
  have K1 := hid k1
  clear t1 k1
  go_wp2_with fail
  refine (HN.out _).mono ?_
  rintro e w2 ⟨rfl, t2, k2⟩
  have hne : w.heap.size ≠ w1.heap.size := by have := T1.out.lt; simp [Rep.zero] at this; omega
  have HS := hid (begun_calls (O := fun k => k < w.heap.size ∨ k = w1.heap.size) (sat_zero (K := [kB]) (T1.out.kept k2 (fun _ _ h => h)) (by omega)) (fun k hk => by
    have z1 := K1.out.size
    have z2 := t2.lt
    simp [Rep.zero] at z2
    omega))
  have T2 := hid t2
  have K2 := hid k2
  clear t2 k2
  go_wp2_with fail
  refine (HS.out).mono ?_
  rintro e w3 ⟨rfl, _, c3⟩
  have HC := hid c3
  clear c3 HS
  go_wp2_with fail
  refine (HC.out).mono ?_
  rintro e w4 ⟨rfl, _, c4⟩
  have HC4 := hid c4
  clear c4 HC
  go_wp2_with fail
  refine (HC4.out).mono ?_
  rintro e w5 ⟨rfl, _, c5⟩
  have HC5 := hid c5
  clear c5 HC4
  go_wp2_with fail
  refine (HC5.out).mono ?_
  rintro e w6 ⟨rfl, _, c6⟩
  have HC6 := hid c6
  clear c6 HC5
  go_wp2_with fail
  refine (HC6.out).mono ?_
  rintro e w7 ⟨rfl, k7⟩
  have K7 := hid k7
  clear k7 HC6
  go_wp2
  go_ret
  have z1 := K1.out.size
  refine ⟨_, rfl, z1, ?_, ?_⟩
  · have h0 : w2.heap[w1.heap.size]? = some (.cells (topCells (Rep.zero w1.heap.size)) 66 (0, 0)) := T2.out.top
    have h1 := (K7.out.block w1.heap.size (Array.getElem?_eq_some_iff.1 h0).1 (fun h => h (.inr rfl))).trans h0
    exact sat_zero (storeAt_zero h1) (by omega)
  · exact (K1.out.tr K2.out (fun _ h => h)).trans K7.out (fun k hk h => h (.inl hk))

end Go.Proofs.Ytfcocbcihhdbkaa
