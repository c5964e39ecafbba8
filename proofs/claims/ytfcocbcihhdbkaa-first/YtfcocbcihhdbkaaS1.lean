/- What has been: which version of a key a state has. -/
import Derived.Test.YtfcocbcihhdbkaaS0
namespace Go.Proofs.Ytfcocbcihhdbkaa
open Go.RowKit

set_option maxRecDepth 100000 in
set_option maxHeartbeats 400000 in
/-- upTo's closure: is the i-th version above the state? -/
theorem upTo1_any (i : Nat) (ab tb g len cap : Nat) (t st : Int) (w : World) (hi : i < len) (ha : w.cell? ⟨ab, 0, none⟩ = some (.slice (some ⟨g, 0, none⟩) len cap)) (ht : w.cell? ⟨tb, 0, none⟩ = some (.int .i64 t)) (hc : w.cell? ⟨g, i * 3, none⟩ = some (.int .i64 st)) :
    Calls Try.prog 82 #[.int .i64 i, .pointer (some ⟨ab, 0, none⟩), .pointer (some ⟨tb, 0, none⟩)] w fun e w' => e = .returned (.bool (decide (t < st))) ∧ Keeps (fun _ => False) w w' := by
  go_enter Try.func82, Try.ntmps82
  go_wp2
  go_region
  go_wp2
  go_ret
  exact ⟨rfl, Keeps.drew _ _⟩

theorem upTo1_int (x : Int) (i : Nat) (ab tb g len cap : Nat) (t st : Int) (w : World) (hx : x = i) (hi : i < len) (ha : w.cell? ⟨ab, 0, none⟩ = some (.slice (some ⟨g, 0, none⟩) len cap)) (ht : w.cell? ⟨tb, 0, none⟩ = some (.int .i64 t)) (hc : w.cell? ⟨g, i * 3, none⟩ = some (.int .i64 st)) :
    Calls Try.prog 82 #[.int .i64 x, .pointer (some ⟨ab, 0, none⟩), .pointer (some ⟨tb, 0, none⟩)] w fun e w' => e = .returned (.bool (decide (t < st))) ∧ Keeps (fun _ => False) w w' := by
  subst hx
  exact upTo1_any i ab tb g len cap t st w hi ha ht hc

set_option maxRecDepth 100000 in
set_option maxHeartbeats 400000 in
/-- sort.Search with it: how many versions are not above the state -/
theorem search_any (n : Nat) (ab tb g cap : Nat) (t : Int) (st : Nat → Int) (w : World) (hl : n ≤ 1000000000000) (ha : w.cell? ⟨ab, 0, none⟩ = some (.slice (some ⟨g, 0, none⟩) n cap)) (ht : w.cell? ⟨tb, 0, none⟩ = some (.int .i64 t))
    (hc : ∀ j, j < n → w.cell? ⟨g, j * 3, none⟩ = some (.int .i64 (st j))) (hs : ∀ i j, i ≤ j → j < n → st i ≤ st j) :
    Calls Try.prog 81 #[.int .i64 n, .func (.func 82) #[] #[.pointer (some ⟨ab, 0, none⟩), .pointer (some ⟨tb, 0, none⟩)]] w fun e w' =>
      ∃ r : Nat, e = .returned (.int .i64 r) ∧ r ≤ n ∧ (∀ j, j < r → st j ≤ t) ∧ (∀ j, r ≤ j → j < n → t < st j) ∧ Keeps (fun _ => False) w w' := by
  have HC : Hid (∀ j, j < n → w.cell? ⟨g, j * 3, none⟩ = some (.int .i64 (st j))) := hc
  have HS : Hid (∀ i j, i ≤ j → j < n → st i ≤ st j) := hs
  clear hc hs
  go_enter Try.func81, Try.ntmps81
  go_wp2
  go_loopw [5, 6] (fun x y wr => ∃ i j : Nat, x = .int .i64 i ∧ y = .int .i64 j ∧ i ≤ j ∧ j ≤ n ∧ (∀ k, k < i → st k ≤ t) ∧ (∀ k, j ≤ k → k < n → t < st k) ∧ Keeps (fun _ => False) w wr) (fun x y _ => ((intOf y) - (intOf x)).toNat)
  case atStart => exact ⟨0, n, rfl, rfl, Nat.zero_le _, Nat.le_refl _, fun k hk => by omega, fun k h1 h2 => by omega, Keeps.refl _ _⟩
  case round =>
    obtain ⟨i, j, rfl, rfl, hij, hjn, hlo, hhi, hkr⟩ := hrel
    by_cases hlt : i < j
    · obtain ⟨m, hm⟩ : ∃ m : Nat, m = (i + j) / 2 := ⟨_, rfl⟩
      have hm1 : i ≤ m := by omega
      have hm2 : m < j := by omega
      have hmz : ((i : Int) + j) / 2 = m := by omega
      have HM : Hid (((i : Int) + j) / 2 = m) := hmz
      have har : wr.cell? ⟨ab, 0, none⟩ = some (.slice (some ⟨g, 0, none⟩) n cap) := hkr.cell (p := ⟨ab, 0, none⟩) ha (fun h => h)
      have htr : wr.cell? ⟨tb, 0, none⟩ = some (.int .i64 t) := hkr.cell (p := ⟨tb, 0, none⟩) ht (fun h => h)
      have hcr : wr.cell? ⟨g, m * 3, none⟩ = some (.int .i64 (st m)) := hkr.cell (p := ⟨g, m * 3, none⟩) (HC.out m (by omega)) (fun h => h)
      have hct := upTo1_int (((i : Int) + j) / 2) m ab tb g n cap t (st m) wr hmz (by omega) har htr hcr
      clear hmz hm hcr har htr
      by_cases hd : t < st m
      · have hb : decide (t < st m) = true := by simpa using hd
        rw [hb] at hct
        clear hb
        go_wp2_with (go_at_call 82; go_must (refine hct.mono ?_; rintro e w1 ⟨rfl, hk1⟩))
        go_roundw
        case rel => exact ⟨i, m, rfl, by rw [HM.out], hm1, by omega, hlo, fun k h1 h2 => Int.lt_of_lt_of_le hd (HS.out m k h1 h2), hkr.tr hk1 (fun _ h => h)⟩
        case measure => simp [intOf]; omega
      · have hb : decide (t < st m) = false := by simpa using hd
        rw [hb] at hct
        clear hb
        go_wp2_with (go_at_call 82; go_must (refine hct.mono ?_; rintro e w1 ⟨rfl, hk1⟩))
        go_roundw
        case rel => exact ⟨m + 1, j, by rw [HM.out]; rfl, rfl, by omega, hjn, fun k hk => Int.le_trans (HS.out k m (by omega) (by omega)) (by omega), hhi, hkr.tr hk1 (fun _ h => h)⟩
        case measure => simp [intOf]; omega
    · go_wp2
      go_ret
      have : i = j := by omega
      subst this
      exact ⟨i, rfl, hjn, hlo, hhi, hkr⟩

end Go.Proofs.Ytfcocbcihhdbkaa
