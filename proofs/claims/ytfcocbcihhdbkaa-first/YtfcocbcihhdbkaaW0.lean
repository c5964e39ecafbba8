/- Small functions of the program and of the statements: what they give. -/
import Derived.Test.YtfcocbcihhdbkaaProg
import Derived.Test.YtfcocbcihhdbkaaL1
namespace Go.Proofs.Ytfcocbcihhdbkaa
open Go.RowKit

theorem ret_bool {a b : Bool} (h : a = b) : Ending.returned (.bool a) = .returned (.bool b) := by rw [h]
theorem ret_int {k : IntKind} {a b : Int} (h : a = b) : Ending.returned (.int k a) = .returned (.int k b) := by rw [h]

theorem ret_string {a b : ByteArray} (h : a = b) : Ending.returned (.string a) = .returned (.string b) := by rw [h]

theorem extract_all (s : ByteArray) (n : Nat) (h : s.size ≤ n) : s.extract 0 n = s := by
  apply ByteArray.ext
  simp only [ByteArray.data_extract]
  rw [Array.extract_eq_self_of_le]
  exact h

/-- is it a key? -/
def keyB (s : ByteArray) : Bool := decide (1 ≤ s.size) && decide (s.size ≤ 10)
/-- is it a value? -/
def valB (s : ByteArray) : Bool := decide (s.size ≤ 40)

theorem isKey_any (s : ByteArray) (w : World) (hs : s.size ≤ maxLen) :
    Calls Try.prog 33 #[.string s] w fun e w' => e = .returned (.bool (keyB s)) ∧ w' = w := by
  unfold maxLen at hs
  go_enter Try.func33, Try.ntmps33
  go_wp2
  all_goals go_ret
  · refine ⟨ret_bool ?_, rfl⟩
    unfold keyB
    rw [Bool.eq_iff_iff]
    simp
    omega
  · refine ⟨ret_bool ?_, rfl⟩
    unfold keyB
    rw [Bool.eq_iff_iff]
    simp
    omega

theorem isValue_any (s : ByteArray) (w : World) (hs : s.size ≤ maxLen) :
    Calls Try.prog 48 #[.string s] w fun e w' => e = .returned (.bool (valB s)) ∧ w' = w := by
  unfold maxLen at hs
  go_enter Try.func48, Try.ntmps48
  go_wp2
  all_goals go_ret
  refine ⟨ret_bool ?_, rfl⟩
  unfold valB
  rw [Bool.eq_iff_iff]
  simp
  omega

/-- which of n things a raw number speaks of -/
def pickZ (c : Int) (n : Int) : Int := if c < 0 then (-(c + 1)) % n else c % n

theorem pick_any (c n : Int) (w : World) (hc : -9223372036854775808 ≤ c ∧ c ≤ 9223372036854775807) (hn : 1 ≤ n ∧ n ≤ 1000000) :
    Calls Try.prog 8 #[.int .i64 c, .int .i64 n] w fun e w' => e = .returned (.int .i64 (pickZ c n)) ∧ w' = w := by
  obtain ⟨h1, h2⟩ := hc
  obtain ⟨h3, h4⟩ := hn
  go_enter Try.func8, Try.ntmps8
  go_wp2
  all_goals go_ret
  · refine ⟨ret_int ?_, rfl⟩
    unfold pickZ
    rw [if_pos (by assumption), ← Int.neg_tmod, Int.tmod_eq_emod_of_nonneg (by omega)]
  · refine ⟨ret_int ?_, rfl⟩
    unfold pickZ
    rw [if_neg (by omega)]

theorem cut_any (s : ByteArray) (w : World) (hs : s.size ≤ maxLen) :
    Calls Try.prog 9 #[.string s] w fun e w' => e = .returned (.string (s.extract 0 40)) ∧ w' = w := by
  unfold maxLen at hs
  go_enter Try.func9, Try.ntmps9
  go_wp2
  all_goals go_ret
  · exact ⟨rfl, rfl⟩
  · refine ⟨ret_string ?_, rfl⟩
    rw [extract_all s 40 (by omega)]

/-- the k-th of twelve keys -/
def keyZ (k : Int) : ByteArray := (ByteArray.mk #[107, 101, 121]).extract 0 (1 + k % 3).toNat ++ (ByteArray.mk #[97, 98, 99, 100, 101, 102, 103, 104, 105, 106, 107, 108]).extract k.toNat (k + 1).toNat

theorem keyZ_eq (k : Int) : keyZ k = (ByteArray.mk #[107, 101, 121]).extract 0 (1 + k % 3).toNat ++ (ByteArray.mk #[97, 98, 99, 100, 101, 102, 103, 104, 105, 106, 107, 108]).extract k.toNat (k + 1).toNat := rfl

theorem key_any (k : Int) (w : World) (hk : 0 ≤ k ∧ k < 12) :
    Calls Try.prog 11 #[.int .i64 k] w fun e w' => e = .returned (.string (keyZ k)) ∧ Keeps (fun _ => False) w w' := by
  obtain ⟨h1, h2⟩ := hk
  go_enter Try.func11, Try.ntmps11
  go_wp2
  go_region
  go_wp2
  go_ret
  exact ⟨rfl, Keeps.drew _ _⟩

end Go.Proofs.Ytfcocbcihhdbkaa
